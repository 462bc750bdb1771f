/-
  Several texts in one: Tzh, Tzi, Rz, Tzj, Tzo, Tzq, Gi, Tza.
-/
import Derived.Test.YtogcfndhcphpaaaC08
import Derived.Test.YtogcfndhcphpaaaC04
import Derived.Test.YtogcfndhcphpaaaC02
import Derived.Test.YtogcfndhcphpaaaC05
import Derived.Deep.MidRow
set_option linter.unusedVariables false
set_option linter.unusedSimpArgs false
namespace Go.Proofs.Ytogcfndhcphpaaa
open Go.RowKit
def UnderB (v : Value) (n : Nat) : Prop := ∀ b, v.ownBlock = some b → b < n
structure StOwn (w : World) (L : Nat → Nat) (h : StH) (s : St) : Prop where
  mono : ∀ i, i < 10 → L i ≤ L (i + 1)
  top : L 10 ≤ w.heap.size
  prog : NestIn (L 0) (L 1) 2 pairL w (.slice h.pa s.prog.length h.pc) s.prog
  gs : OwnRows 55 5 gL w (L 1) (.slice h.ga s.gs.length h.gc) s.gs ∧ UnderB (.slice h.ga s.gs.length h.gc) (L 2)
  ps : OwnRows 40 13 pL w (L 2) (.slice h.qa s.ps.length h.qc) s.ps ∧ UnderB (.slice h.qa s.ps.length h.qc) (L 3)
  ms : OwnRows 57 2 pairL w (L 3) (.slice h.ma s.ms.length h.mc) s.ms ∧ UnderB (.slice h.ma s.ms.length h.mc) (L 4)
  glob : OwnInts w (L 4) (.slice h.la s.glob.length h.lc) s.glob ∧ UnderB (.slice h.la s.glob.length h.lc) (L 5)
  w0 : OwnInts w (L 5) (.slice h.a0 s.w0.length h.k0) s.w0 ∧ UnderB (.slice h.a0 s.w0.length h.k0) (L 6)
  w1 : OwnInts w (L 6) (.slice h.a1 s.w1.length h.k1) s.w1 ∧ UnderB (.slice h.a1 s.w1.length h.k1) (L 7)
  w2 : OwnInts w (L 7) (.slice h.a2 s.w2.length h.k2) s.w2 ∧ UnderB (.slice h.a2 s.w2.length h.k2) (L 8)
  w3 : OwnInts w (L 8) (.slice h.a3 s.w3.length h.k3) s.w3 ∧ UnderB (.slice h.a3 s.w3.length h.k3) (L 9)
  timers : OwnTs w (L 9) (.slice h.ta s.timers.length h.tc) s.timers ∧ UnderB (.slice h.ta s.timers.length h.tc) (L 10)
theorem OwnRows.underB {α : Type} {e : TypeId} {m : Nat} {f : α → List Value} {w : World} {B : Nat} {v : Value} {xs : List α} (h : OwnRows e m f w B v xs) : UnderB v w.heap.size := fun b hb => (h.lt b hb).2
theorem OwnInts.underB {w : World} {B : Nat} {v : Value} {xs : List Int} (h : OwnInts w B v xs) : UnderB v w.heap.size := fun b hb => (World.ownsRow.lt h b hb).2
theorem OwnRows.updB {α : Type} {e : TypeId} {m : Nat} {f : α → List Value} {w w' : World} {B g : Nat} {v : Value} {xs : List α} (h : OwnRows e m f w B v xs) (hu : Upd g w w') (hg : g < B) : OwnRows e m f w' B v xs :=
  h.kept hu (by
    cases hv : v.ownBlock with
    | none => exact .inl rfl
    | some b => exact .inr (by have := (h.lt b hv).1; rintro he; injection he with he; omega))
theorem OwnInts.updB {w w' : World} {B g : Nat} {v : Value} {xs : List Int} (h : OwnInts w B v xs) (hu : Upd g w w') (hg : g < B) : OwnInts w' B v xs := h.kept hu hg
theorem OwnRows.lowB {α : Type} {e : TypeId} {m : Nat} {f : α → List Value} {w : World} {B B' : Nat} {v : Value} {xs : List α} (h : OwnRows e m f w B v xs) (hb : B' ≤ B) : OwnRows e m f w B' v xs := by
  refine ⟨h.1, ?_⟩
  rcases h.2 with h0 | ⟨g, cap, cur, hv, hbb, hr⟩
  · exact .inl h0
  · exact .inr ⟨g, cap, cur, hv, by omega, hr⟩
theorem stC_wts {h : StH} {s : St} {i : Nat} {l : List Int} (hl : s.wts[i]? = some l) : ∃ A c, (stC h s)[9 + i]? = some (.slice A l.length c) := by
  have hi : i < 4 := by have := (List.getElem?_eq_some_iff.1 hl).1; simpa [St.wts] using this
  obtain rfl | rfl | rfl | rfl : i = 0 ∨ i = 1 ∨ i = 2 ∨ i = 3 := by omega
  all_goals
    simp only [St.wts, List.getElem?_cons_zero, List.getElem?_cons_succ, Option.some.injEq] at hl
    subst hl
    exact ⟨_, _, rfl⟩
def StH.withW (h : StH) (f : Nat → Option Addr × Nat) : StH := { h with a0 := (f 0).1, k0 := (f 0).2, a1 := (f 1).1, k1 := (f 1).2, a2 := (f 2).1, k2 := (f 2).2, a3 := (f 3).1, k3 := (f 3).2 }
theorem stC_set {h : StH} {s : St} {f : Nat → Option Addr × Nat} {i : Nat} {l : List Int} (hl : s.wts[i]? = some l) (A : Option Addr) (c : Nat) : (stC (h.withW f) s).setIfInBounds (9 + i) (.slice A l.length c) = stC (h.withW fun j => if j = i then (A, c) else f j) s := by
  have hi : i < 4 := by have := (List.getElem?_eq_some_iff.1 hl).1; simpa [St.wts] using this
  obtain rfl | rfl | rfl | rfl : i = 0 ∨ i = 1 ∨ i = 2 ∨ i = 3 := by omega
  all_goals
    simp only [St.wts, List.getElem?_cons_zero, List.getElem?_cons_succ, Option.some.injEq] at hl
    subst hl
    rfl
theorem stL_one (h : StH) (s : St) : ∀ u ∈ stL h s, u.oneCell' = true := by
  intro u hu
  simp only [stL, List.mem_cons, List.not_mem_nil, or_false] at hu
  rcases hu with rfl | rfl | rfl | rfl | rfl | rfl | rfl | rfl | rfl | rfl | rfl | rfl | rfl | rfl | rfl | rfl <;> rfl
set_option maxRecDepth 100000 in
set_option maxHeartbeats 16000000 in
theorem sCopy_any (h : StH) (s : St) (w : World) (hk : StOk w h s) (hf : StFew s) : Calls Try.prog 41 #[stV h s] w fun e w' => ∃ h' L, e = .returned (stV h' s) ∧ StOwn w' L h' s ∧ w.heap.size ≤ L 0 ∧ Ext w w' := by
  have HF := Lib.hid hf
  have F2 := Lib.hid hf.w
  obtain ⟨pa, pc, ga, gc, qa, qc, ma, mc, la, lc, a0, k0, a1, k1, a2, k2, a3, k3, ta, tc⟩ := h
  have HK := Lib.hid hk
  obtain ⟨W0, hW0⟩ : ∃ W0, w.heap.size = W0 := ⟨_, rfl⟩
  obtain ⟨R, hR⟩ : ∃ R, W0 + 1 = R := ⟨_, rfl⟩
  obtain ⟨w2, hw2⟩ : ∃ w2, (w.alloc (.cells (stC ⟨pa, pc, ga, gc, qa, qc, ma, mc, la, lc, a0, k0, a1, k1, a2, k2, a3, k3, ta, tc⟩ s) 32)).alloc (.cells #[.slice none 0 0, .slice none 0 0, .slice none 0 0, .slice none 0 0, .slice none 0 0, .int .i64 0, .int .i64 0, .int .i64 0, .int .i64 0, .slice none 0 0, .slice none 0 0, .slice none 0 0, .slice none 0 0, .slice none 0 0, .int .i64 0, .int .i64 0] 32) = w2 := ⟨_, rfl⟩
  have hx2 : Ext w w2 := by rw [← hw2]; exact ((Ext.refl w).alloc _).alloc _
  have HX1 := Lib.hid hx2
  have HB1 : Hid (w2.heap[W0]? = some (.cells (stC ⟨pa, pc, ga, gc, qa, qc, ma, mc, la, lc, a0, k0, a1, k1, a2, k2, a3, k3, ta, tc⟩ s) 32 (0, 0))) := Lib.hid (by rw [← hw2, ← hW0]; exact blk_alloc (blk_new w _) _)
  have HR1 : Hid (w2.heap[R]? = some (.cells #[.slice none 0 0, .slice none 0 0, .slice none 0 0, .slice none 0 0, .slice none 0 0, .int .i64 0, .int .i64 0, .int .i64 0, .int .i64 0, .slice none 0 0, .slice none 0 0, .slice none 0 0, .slice none 0 0, .slice none 0 0, .int .i64 0, .int .i64 0] 32 (0, 0))) := Lib.hid (by
    have := blk_new (w.alloc (.cells (stC ⟨pa, pc, ga, gc, qa, qc, ma, mc, la, lc, a0, k0, a1, k1, a2, k2, a3, k3, ta, tc⟩ s) 32)) (.cells #[.slice none 0 0, .slice none 0 0, .slice none 0 0, .slice none 0 0, .slice none 0 0, .int .i64 0, .int .i64 0, .int .i64 0, .int .i64 0, .slice none 0 0, .slice none 0 0, .slice none 0 0, .slice none 0 0, .slice none 0 0, .int .i64 0, .int .i64 0] 32)
    rw [hw2, World.size_alloc, hW0, hR] at this
    exact this)
  have HRR := Lib.hid hR
  have HW0 := Lib.hid hW0
  have HW2 := Lib.hid hw2
  have hk2 := hk.ext hx2
  have HK1 := Lib.hid hk2
  unfold stC at HW2
  simp only at HW2
  clear hk hf hw2 hx2 hW0 hR hk2
  unfold stV
  go_enter Try.func41, Try.ntmps41
  go_upto_region 1 with fail
  rw [HW2.out, HW0.out, HRR.out]
  generalize Value.agg #[.slice pa s.prog.length pc, .slice ga s.gs.length gc, .slice qa s.ps.length qc, .slice ma s.ms.length mc, .slice la s.glob.length lc, .int .i64 s.c0, .int .i64 s.c1, .int .i64 s.c2, .int .i64 s.c3, .slice a0 s.w0.length k0, .slice a1 s.w1.length k1, .slice a2 s.w2.length k2, .slice a3 s.w3.length k3, .slice ta s.timers.length tc, .int .i64 s.clock, .int .i64 s.procs] = sv0
  have q : w2.cell? ⟨W0, 0, none⟩ = some (.slice pa s.prog.length pc) := st0 HB1.out
  go_wp2_with fail
  refine (scloneProg_any _ s.prog _ (HK.out.ext HX1.out).prog HF.out.prog.1 HF.out.prog.2).mono ?_
  rintro e wa1 ⟨A1, c1, rfl, ho, hx⟩
  have HO1 := Lib.hid ho
  clear ho q
  have HA1 := Lib.hid hx
  obtain ⟨wb1, hwb⟩ : ∃ wb1, wa1.setCell ⟨W0, 0, none⟩ (.slice A1 s.prog.length c1) = wb1 := ⟨_, rfl⟩
  have HWB := Lib.hid hwb
  have HXA : Hid (Ext w wa1) := Lib.hid (HX1.out.trans hx)
  have HX2 : Hid (Ext w wb1) := Lib.hid (by rw [← hwb]; exact HXA.out.setCell (p := ⟨W0, 0, none⟩) (by have := HW0.out; simp only; omega) _)
  have hba := hx.blk HB1.out
  have HB2 : Hid (wb1.heap[W0]? = some (.cells (stC ⟨A1, c1, ga, gc, qa, qc, ma, mc, la, lc, a0, k0, a1, k1, a2, k2, a3, k3, ta, tc⟩ s) 32 (0, 0))) := Lib.hid (by rw [← hwb]; exact blk_set hba 0 _)
  have HR2 : Hid (wb1.heap[R]? = some (.cells #[.slice none 0 0, .slice none 0 0, .slice none 0 0, .slice none 0 0, .slice none 0 0, .int .i64 0, .int .i64 0, .int .i64 0, .int .i64 0, .slice none 0 0, .slice none 0 0, .slice none 0 0, .slice none 0 0, .slice none 0 0, .int .i64 0, .int .i64 0] 32 (0, 0))) := Lib.hid (by rw [← hwb]; exact blk_set_other (hx.blk HR1.out) _ (by have := HRR.out; simp only; omega) _)
  have HU2 : Hid (Upd W0 wa1 wb1) := Lib.hid (by rw [← hwb]; exact (Upd.refl W0 wa1).set 0 _)
  have qs : wa1.cell? ⟨W0, 0, none⟩ = some (.slice pa s.prog.length pc) := st0 hba
  have qf := frozen_of_row _ _ 0 _ _ hba
  clear hwb hba hx
  go_upto_region 2 with fail
  rw [HWB.out]
  clear qs qf HWB HXA
  have q : wb1.cell? ⟨W0, 1, none⟩ = some (.slice ga s.gs.length gc) := st1 HB2.out
  go_wp2_with fail
  refine (cloneG_any _ s.gs _ (HK.out.ext HX2.out).gs (by have := HF.out.gs; omega)).mono ?_
  rintro e wa2 ⟨u, rfl, ho, hx⟩
  obtain ⟨A2, c2, rfl, -⟩ := (OwnRows.rows gL_len ho).form
  have HO2 := Lib.hid ho
  clear ho q
  have HA2 := Lib.hid hx
  obtain ⟨wb2, hwb⟩ : ∃ wb2, wa2.setCell ⟨W0, 1, none⟩ (.slice A2 s.gs.length c2) = wb2 := ⟨_, rfl⟩
  have HWB := Lib.hid hwb
  have HXA : Hid (Ext w wa2) := Lib.hid (HX2.out.trans hx)
  have HX3 : Hid (Ext w wb2) := Lib.hid (by rw [← hwb]; exact HXA.out.setCell (p := ⟨W0, 1, none⟩) (by have := HW0.out; simp only; omega) _)
  have hba := hx.blk HB2.out
  have HB3 : Hid (wb2.heap[W0]? = some (.cells (stC ⟨A1, c1, A2, c2, qa, qc, ma, mc, la, lc, a0, k0, a1, k1, a2, k2, a3, k3, ta, tc⟩ s) 32 (0, 0))) := Lib.hid (by rw [← hwb]; exact blk_set hba 1 _)
  have HR3 : Hid (wb2.heap[R]? = some (.cells #[.slice none 0 0, .slice none 0 0, .slice none 0 0, .slice none 0 0, .slice none 0 0, .int .i64 0, .int .i64 0, .int .i64 0, .int .i64 0, .slice none 0 0, .slice none 0 0, .slice none 0 0, .slice none 0 0, .slice none 0 0, .int .i64 0, .int .i64 0] 32 (0, 0))) := Lib.hid (by rw [← hwb]; exact blk_set_other (hx.blk HR2.out) _ (by have := HRR.out; simp only; omega) _)
  have HU3 : Hid (Upd W0 wa2 wb2) := Lib.hid (by rw [← hwb]; exact (Upd.refl W0 wa2).set 1 _)
  have qs : wa2.cell? ⟨W0, 1, none⟩ = some (.slice ga s.gs.length gc) := st1 hba
  have qf := frozen_of_row _ _ 1 _ _ hba
  clear hwb hba hx
  go_upto_region 3 with fail
  rw [HWB.out]
  clear qs qf HWB HXA
  have q : wb2.cell? ⟨W0, 2, none⟩ = some (.slice qa s.ps.length qc) := st2 HB3.out
  go_wp2_with fail
  refine (cloneP_any _ s.ps _ (HK.out.ext HX3.out).ps (by have := HF.out.ps; omega)).mono ?_
  rintro e wa3 ⟨u, rfl, ho, hx⟩
  obtain ⟨A3, c3, rfl, -⟩ := (OwnRows.rows pL_len ho).form
  have HO3 := Lib.hid ho
  clear ho q
  have HA3 := Lib.hid hx
  obtain ⟨wb3, hwb⟩ : ∃ wb3, wa3.setCell ⟨W0, 2, none⟩ (.slice A3 s.ps.length c3) = wb3 := ⟨_, rfl⟩
  have HWB := Lib.hid hwb
  have HXA : Hid (Ext w wa3) := Lib.hid (HX3.out.trans hx)
  have HX4 : Hid (Ext w wb3) := Lib.hid (by rw [← hwb]; exact HXA.out.setCell (p := ⟨W0, 2, none⟩) (by have := HW0.out; simp only; omega) _)
  have hba := hx.blk HB3.out
  have HB4 : Hid (wb3.heap[W0]? = some (.cells (stC ⟨A1, c1, A2, c2, A3, c3, ma, mc, la, lc, a0, k0, a1, k1, a2, k2, a3, k3, ta, tc⟩ s) 32 (0, 0))) := Lib.hid (by rw [← hwb]; exact blk_set hba 2 _)
  have HR4 : Hid (wb3.heap[R]? = some (.cells #[.slice none 0 0, .slice none 0 0, .slice none 0 0, .slice none 0 0, .slice none 0 0, .int .i64 0, .int .i64 0, .int .i64 0, .int .i64 0, .slice none 0 0, .slice none 0 0, .slice none 0 0, .slice none 0 0, .slice none 0 0, .int .i64 0, .int .i64 0] 32 (0, 0))) := Lib.hid (by rw [← hwb]; exact blk_set_other (hx.blk HR3.out) _ (by have := HRR.out; simp only; omega) _)
  have HU4 : Hid (Upd W0 wa3 wb3) := Lib.hid (by rw [← hwb]; exact (Upd.refl W0 wa3).set 2 _)
  have qs : wa3.cell? ⟨W0, 2, none⟩ = some (.slice qa s.ps.length qc) := st2 hba
  have qf := frozen_of_row _ _ 2 _ _ hba
  clear hwb hba hx
  go_upto_region 4 with fail
  rw [HWB.out]
  clear qs qf HWB HXA
  have q : wb3.cell? ⟨W0, 3, none⟩ = some (.slice ma s.ms.length mc) := st3 HB4.out
  go_wp2_with fail
  refine (cloneM_any _ s.ms _ (HK.out.ext HX4.out).ms (by have := HF.out.ms; omega)).mono ?_
  rintro e wa4 ⟨u, rfl, ho, hx⟩
  obtain ⟨A4, c4, rfl, -⟩ := (OwnRows.rows pairL_len ho).form
  have HO4 := Lib.hid ho
  clear ho q
  have HA4 := Lib.hid hx
  obtain ⟨wb4, hwb⟩ : ∃ wb4, wa4.setCell ⟨W0, 3, none⟩ (.slice A4 s.ms.length c4) = wb4 := ⟨_, rfl⟩
  have HWB := Lib.hid hwb
  have HXA : Hid (Ext w wa4) := Lib.hid (HX4.out.trans hx)
  have HX5 : Hid (Ext w wb4) := Lib.hid (by rw [← hwb]; exact HXA.out.setCell (p := ⟨W0, 3, none⟩) (by have := HW0.out; simp only; omega) _)
  have hba := hx.blk HB4.out
  have HB5 : Hid (wb4.heap[W0]? = some (.cells (stC ⟨A1, c1, A2, c2, A3, c3, A4, c4, la, lc, a0, k0, a1, k1, a2, k2, a3, k3, ta, tc⟩ s) 32 (0, 0))) := Lib.hid (by rw [← hwb]; exact blk_set hba 3 _)
  have HR5 : Hid (wb4.heap[R]? = some (.cells #[.slice none 0 0, .slice none 0 0, .slice none 0 0, .slice none 0 0, .slice none 0 0, .int .i64 0, .int .i64 0, .int .i64 0, .int .i64 0, .slice none 0 0, .slice none 0 0, .slice none 0 0, .slice none 0 0, .slice none 0 0, .int .i64 0, .int .i64 0] 32 (0, 0))) := Lib.hid (by rw [← hwb]; exact blk_set_other (hx.blk HR4.out) _ (by have := HRR.out; simp only; omega) _)
  have HU5 : Hid (Upd W0 wa4 wb4) := Lib.hid (by rw [← hwb]; exact (Upd.refl W0 wa4).set 3 _)
  have qs : wa4.cell? ⟨W0, 3, none⟩ = some (.slice ma s.ms.length mc) := st3 hba
  have qf := frozen_of_row _ _ 3 _ _ hba
  clear hwb hba hx
  go_upto_region 5 with fail
  rw [HWB.out]
  clear qs qf HWB HXA
  have q : wb4.cell? ⟨W0, 4, none⟩ = some (.slice la s.glob.length lc) := st4 HB5.out
  go_wp2_with fail
  refine (cloneN_any _ s.glob _ (HK.out.ext HX5.out).glob (by have := HF.out.glob; omega)).mono ?_
  rintro e wa5 ⟨u, rfl, ho, hx⟩
  obtain ⟨A5, c5, rfl⟩ := ho.form
  have HO5 := Lib.hid ho
  clear ho q
  have HA5 := Lib.hid hx
  obtain ⟨wb5, hwb⟩ : ∃ wb5, wa5.setCell ⟨W0, 4, none⟩ (.slice A5 s.glob.length c5) = wb5 := ⟨_, rfl⟩
  have HWB := Lib.hid hwb
  have HXA : Hid (Ext w wa5) := Lib.hid (HX5.out.trans hx)
  have HX6 : Hid (Ext w wb5) := Lib.hid (by rw [← hwb]; exact HXA.out.setCell (p := ⟨W0, 4, none⟩) (by have := HW0.out; simp only; omega) _)
  have hba := hx.blk HB5.out
  have HB6 : Hid (wb5.heap[W0]? = some (.cells (stC ⟨A1, c1, A2, c2, A3, c3, A4, c4, A5, c5, a0, k0, a1, k1, a2, k2, a3, k3, ta, tc⟩ s) 32 (0, 0))) := Lib.hid (by rw [← hwb]; exact blk_set hba 4 _)
  have HR6 : Hid (wb5.heap[R]? = some (.cells #[.slice none 0 0, .slice none 0 0, .slice none 0 0, .slice none 0 0, .slice none 0 0, .int .i64 0, .int .i64 0, .int .i64 0, .int .i64 0, .slice none 0 0, .slice none 0 0, .slice none 0 0, .slice none 0 0, .slice none 0 0, .int .i64 0, .int .i64 0] 32 (0, 0))) := Lib.hid (by rw [← hwb]; exact blk_set_other (hx.blk HR5.out) _ (by have := HRR.out; simp only; omega) _)
  have HU6 : Hid (Upd W0 wa5 wb5) := Lib.hid (by rw [← hwb]; exact (Upd.refl W0 wa5).set 4 _)
  have qs : wa5.cell? ⟨W0, 4, none⟩ = some (.slice la s.glob.length lc) := st4 hba
  have qf := frozen_of_row _ _ 4 _ _ hba
  clear hwb hba hx
  go_upto_region 6 with fail
  rw [HWB.out]
  clear qs qf HWB HXA
  obtain ⟨hc, hhc⟩ : ∃ hc : StH, hc = ⟨A1, c1, A2, c2, A3, c3, A4, c4, A5, c5, a0, k0, a1, k1, a2, k2, a3, k3, ta, tc⟩ := ⟨_, rfl⟩
  have HHC := Lib.hid hhc
  obtain ⟨m5, hm5⟩ : ∃ m5, wb5.heap.size = m5 := ⟨_, rfl⟩
  have HM5 := Lib.hid hm5
  have HBL : Hid (wb5.heap[W0]? = some (.cells (stC (hc.withW fun j => match j with | 0 => (a0, k0) | 1 => (a1, k1) | 2 => (a2, k2) | _ => (a3, k3)) s) 32 (0, 0))) := Lib.hid (by rw [hhc]; exact HB6.out)
  have HLT5 : Hid (W0 < m5) := Lib.hid (by rw [← hm5]; exact blk_lt HB6.out)
  have q9 : wb5.cell? ⟨W0, 9, none⟩ = some (.slice a0 s.w0.length k0) := st9 HB6.out
  have q10 : wb5.cell? ⟨W0, 10, none⟩ = some (.slice a1 s.w1.length k1) := st10 HB6.out
  have q11 : wb5.cell? ⟨W0, 11, none⟩ = some (.slice a2 s.w2.length k2) := st11 HB6.out
  have q12 : wb5.cell? ⟨W0, 12, none⟩ = some (.slice a3 s.w3.length k3) := st12 HB6.out
  clear hhc hm5
  go_wp2_with fail
  clear q9 q10 q11 q12
  go_loopw [27] (fun iv wr => ∃ k : Nat, k ≤ 4 ∧ iv = .int .i64 k ∧ ∃ (f : Nat → Option Addr × Nat) (M : Nat → Nat), wr.heap[W0]? = some (.cells (stC (hc.withW f) s) 32 (0, 0)) ∧ wr.heap[R]? = some (.cells #[.slice none 0 0, .slice none 0 0, .slice none 0 0, .slice none 0 0, .slice none 0 0, .int .i64 0, .int .i64 0, .int .i64 0, .int .i64 0, .slice none 0 0, .slice none 0 0, .slice none 0 0, .slice none 0 0, .slice none 0 0, .int .i64 0, .int .i64 0] 32 (0, 0)) ∧ M 0 = m5 ∧ (∀ (j : Nat) l, j < k → s.wts[j]? = some l → M j ≤ M (j + 1) ∧ m5 ≤ M j ∧ OwnInts wr (M j) (.slice (f j).1 l.length (f j).2) l ∧ UnderB (.slice (f j).1 l.length (f j).2) (M (j + 1))) ∧ m5 ≤ M k ∧ M k ≤ wr.heap.size ∧ Ext w wr ∧ Upd W0 wb5 wr) (fun iv _ => 4 - (intOf iv).toNat)
  case atStart => exact ⟨0, by omega, rfl, _, fun _ => m5, HBL.out, HR6.out, rfl, fun j l h _ => by omega, Nat.le_refl _, by rw [HM5.out]; exact Nat.le_refl _, HX6.out, Upd.refl _ _⟩
  case round =>
    clear HBL HB6 HR6 HX6
    obtain ⟨k, hk, rfl, f, M, hb, hr, hm0, hrows, hmk, hms, hx, hu⟩ := hrel
    have HBL := Lib.hid hb
    have HRL := Lib.hid hr
    have HM0 := Lib.hid hm0
    have HRW := Lib.hid hrows
    have HMK := Lib.hid hmk
    have HMS := Lib.hid hms
    have HX := Lib.hid hx
    have HU := Lib.hid hu
    clear hb hr hm0 hrows hmk hms hx hu
    by_cases hlt : k < 4
    · obtain ⟨A0, d0, l, hcell, hI, hl⟩ := HK.out.wait hlt
      have hidx : ∀ w, (Instr.index 29 (.agg #[.slice a0 s.w0.length k0, .slice a1 s.w1.length k1, .slice a2 s.w2.length k2, .slice a3 s.w3.length k3]) (.int .i64 (k : Int))).run Try.prog w = .ok (.slice A0 l.length d0) w := fun w => by
        obtain rfl | rfl | rfl | rfl : k = 0 ∨ k = 1 ∨ k = 2 ∨ k = 3 := by omega
        · have he : Value.slice a0 s.w0.length k0 = .slice A0 l.length d0 := Option.some.inj hcell
          refine Eq.trans (b := .ok (.slice a0 s.w0.length k0) w) ?_ (by rw [he])
          kernel_rfl
        · have he : Value.slice a1 s.w1.length k1 = .slice A0 l.length d0 := Option.some.inj hcell
          refine Eq.trans (b := .ok (.slice a1 s.w1.length k1) w) ?_ (by rw [he])
          kernel_rfl
        · have he : Value.slice a2 s.w2.length k2 = .slice A0 l.length d0 := Option.some.inj hcell
          refine Eq.trans (b := .ok (.slice a2 s.w2.length k2) w) ?_ (by rw [he])
          kernel_rfl
        · have he : Value.slice a3 s.w3.length k3 = .slice A0 l.length d0 := Option.some.inj hcell
          refine Eq.trans (b := .ok (.slice a3 s.w3.length k3) w) ?_ (by rw [he])
          kernel_rfl
      have HCN := Lib.hid (cloneN_any _ l wr (hI.ext HX.out) (by have := wts_few F2.out hl; omega))
      have HLK := Lib.hid hl
      clear hcell hI hl
      go_wp2_with fail
      refine HCN.out.mono ?_
      rintro e wa ⟨u, rfl, ho, hxa⟩
      clear hidx
      obtain ⟨A, c, rfl⟩ := ho.form
      have hba := hxa.blk HBL.out
      obtain ⟨Ao, co, hco⟩ := stC_wts (h := hc.withW f) (s := s) HLK.out
      have qs := blk_cell hba (9 + k) _ hco
      have qf := frozen_of_row _ _ (9 + k) _ _ hba
      have hu1 : Upd W0 wa (wa.setCell ⟨W0, 9 + k, none⟩ (.slice A l.length c)) := (Upd.refl W0 wa).set (9 + k) _
      have hw05 := HLT5.out
      have N1 : Hid ((wa.setCell ⟨W0, 9 + k, none⟩ (.slice A l.length c)).heap[W0]? = some (.cells (stC (hc.withW fun j => if j = k then (A, c) else f j) s) 32 (0, 0))) := Lib.hid (by rw [← stC_set HLK.out]; exact blk_set hba _ _)
      have N2 : Hid ((wa.setCell ⟨W0, 9 + k, none⟩ (.slice A l.length c)).heap[R]? = some (.cells #[.slice none 0 0, .slice none 0 0, .slice none 0 0, .slice none 0 0, .slice none 0 0, .int .i64 0, .int .i64 0, .int .i64 0, .int .i64 0, .slice none 0 0, .slice none 0 0, .slice none 0 0, .slice none 0 0, .slice none 0 0, .int .i64 0, .int .i64 0] 32 (0, 0))) := Lib.hid (blk_set_other (hxa.blk HRL.out) _ (by have := HRR.out; simp only; omega) _)
      have N4 : Hid (∀ (j : Nat) l', j < k + 1 → s.wts[j]? = some l' → (if j = k + 1 then wa.heap.size else M j) ≤ (if j + 1 = k + 1 then wa.heap.size else M (j + 1)) ∧ m5 ≤ (if j = k + 1 then wa.heap.size else M j) ∧ OwnInts (wa.setCell ⟨W0, 9 + k, none⟩ (.slice A l.length c)) (if j = k + 1 then wa.heap.size else M j) (.slice (if j = k then (A, c) else f j).1 l'.length (if j = k then (A, c) else f j).2) l' ∧ UnderB (.slice (if j = k then (A, c) else f j).1 l'.length (if j = k then (A, c) else f j).2) (if j + 1 = k + 1 then wa.heap.size else M (j + 1))) := Lib.hid fun j l' hj hl' => by
        rw [if_neg (show ¬ j = k + 1 by omega)]
        by_cases hjk : j = k
        · subst hjk
          obtain rfl : l' = l := by have := HLK.out; rw [hl'] at this; exact Option.some.inj this
          rw [if_pos rfl, if_pos rfl]
          exact ⟨Nat.le_trans HMS.out hxa.size, HMK.out, (OwnInts.lower ho HMS.out).updB hu1 (by have := HMK.out; omega), ho.underB⟩
        · rw [if_neg hjk, if_neg (show ¬ j + 1 = k + 1 by omega)]
          obtain ⟨h1, h2, h3, h4⟩ := HRW.out j l' (by omega) hl'
          exact ⟨h1, h2, (h3.ext hxa).updB hu1 (by omega), h4⟩
      have N5 : Hid (m5 ≤ wa.heap.size) := Lib.hid (Nat.le_trans HMK.out (Nat.le_trans HMS.out hxa.size))
      have N6 : Hid (wa.heap.size ≤ (wa.setCell ⟨W0, 9 + k, none⟩ (.slice A l.length c)).heap.size) := Lib.hid hu1.size
      have N7 : Hid (Ext w (wa.setCell ⟨W0, 9 + k, none⟩ (.slice A l.length c))) := Lib.hid ((HX.out.trans hxa).setCell (p := ⟨W0, 9 + k, none⟩) (by have := HW0.out; simp only; omega) _)
      have N8 : Hid (Upd W0 wb5 (wa.setCell ⟨W0, 9 + k, none⟩ (.slice A l.length c))) := Lib.hid ((HU.out.trans (Upd.ext hxa)).trans hu1)
      clear ho hxa hba hu1 hw05 hco
      go_wp2
      go_roundw
      case rel => exact ⟨k + 1, by omega, by go_num, fun j => if j = k then (A, c) else f j, fun j => if j = k + 1 then wa.heap.size else M j, N1.out, N2.out, by simpa using HM0.out, N4.out, by simp only [if_pos]; exact N5.out, by simp only [if_pos]; exact N6.out, N7.out, N8.out⟩
      case measure => simp [intOf]; omega
    · have HK4 : Hid (k = 4) := Lib.hid (by omega)
      have q13 : wr.cell? ⟨W0, 13, none⟩ = some (.slice ta s.timers.length tc) := by have := st13 HBL.out; rw [HHC.out] at this; exact this
      go_wp2_with fail
      refine (sclone_any _ s.timers _ (HK.out.ext HX.out).timers (by have := HF.out.timers; omega)).mono ?_
      rintro e wa ⟨u, rfl, ho, hxa⟩
      obtain ⟨A, c, rfl, -⟩ := (OwnRows.rows pairL_len ho).form
      clear q13
      have HO6 := Lib.hid ho
      have HA6 := Lib.hid hxa
      have hba := hxa.blk HBL.out
      have hra := hxa.blk HRL.out
      have qs : wa.cell? ⟨W0, 13, none⟩ = some (.slice ta s.timers.length tc) := by have := st13 hba; rw [HHC.out] at this; exact this
      have qf := frozen_of_row _ _ 13 _ _ hba
      obtain ⟨h', hh'⟩ : ∃ h' : StH, h' = { hc.withW f with ta := A, tc := c } := ⟨_, rfl⟩
      obtain ⟨wb, hwb⟩ : ∃ wb, wa.setCell ⟨W0, 13, none⟩ (.slice A s.timers.length c) = wb := ⟨_, rfl⟩
      have HBF : Hid (wb.heap[W0]? = some (.cells (stC h' s) 32 (0, 0))) := Lib.hid (by rw [← hwb, hh']; exact blk_set hba 13 _)
      have HRF : Hid (wb.heap[R]? = some (.cells #[.slice none 0 0, .slice none 0 0, .slice none 0 0, .slice none 0 0, .slice none 0 0, .int .i64 0, .int .i64 0, .int .i64 0, .int .i64 0, .slice none 0 0, .slice none 0 0, .slice none 0 0, .slice none 0 0, .slice none 0 0, .int .i64 0, .int .i64 0] 32 (0, 0))) := Lib.hid (by rw [← hwb]; exact blk_set_other hra _ (by have := HRR.out; simp only; omega) _)
      have HUT : Hid (Upd W0 wa wb) := Lib.hid (by rw [← hwb]; exact (Upd.refl W0 wa).set 13 _)
      have HXB : Hid (Ext w wb) := Lib.hid (by rw [← hwb]; exact (HX.out.trans hxa).setCell (p := ⟨W0, 13, none⟩) (by have := HW0.out; simp only; omega) _)
      obtain ⟨wf, hwf⟩ : ∃ wf, wb.setCells R 0 (stL h' s) = wf := ⟨_, rfl⟩
      have HWF := Lib.hid hwf
      have HUF : Hid (Upd R wb wf) := Lib.hid (by rw [← hwf]; exact setCells_upd _ _ _ _)
      have HRZ : Hid (wf.heap[R]? = some (.cells (stL h' s).toArray 32 (0, 0))) := Lib.hid (by rw [← hwf]; exact setCells_at [.slice none 0 0, .slice none 0 0, .slice none 0 0, .slice none 0 0, .slice none 0 0, .int .i64 0, .int .i64 0, .int .i64 0, .int .i64 0, .slice none 0 0, .slice none 0 0, .slice none 0 0, .slice none 0 0, .slice none 0 0, .int .i64 0, .int .i64 0] (stL h' s) rfl HRF.out)
      have HTH : Hid (wb.there R 0 (stL h' s).length) := Lib.hid (there_row HRF.out (Nat.le_refl 16))
      have HON := Lib.hid (stL_one h' s)
      have HWB := Lib.hid hwb
      have HHH := Lib.hid hh'
      clear ho hxa hba hra hh' hwb hwf
      go_upto_region 12 with fail
      rw [HWB.out]
      clear qs qf
      go_wp2_with (first | (refine wpList_load_rowW rfl 32 _ rfl W0 rfl (stL h' s) (stV h' s) rfl _ (range_row HBF.out) Try.underlying32 rfl (by kernel_rfl) ?_) | (refine wpList_store_row rfl 32 _ _ rfl R (stL h' s) (stV h' s) rfl rfl rfl HTH.out (by kernel_rfl) HON.out HWF.out ?_))
      refine bodyPost_ret (v := .agg (stL h' s).toArray) (results_cell_row rfl _ _ R _ _ _ _ rfl HRZ.out Try.underlying32 rfl (by kernel_rfl)) rfl ?_
      obtain rfl := HK4.out
      have hR2 : R < w2.heap.size := blk_lt HR1.out
      have hRR := HRR.out
      have hW := HW0.out
      have e1 := HA1.out.size
      have e2 := HU2.out.size
      have e3 := HA2.out.size
      have e4 := HU3.out.size
      have e5 := HA3.out.size
      have e6 := HU4.out.size
      have e7 := HA4.out.size
      have e8 := HU5.out.size
      have e9 := HA5.out.size
      have e10 := HU6.out.size
      have e11 := HM5.out
      have e12 := HA6.out.size
      have e13 := HUT.out.size
      have e14 := HUF.out.size
      have e15 := HMS.out
      have e16 := HM0.out
      have e17 := HMK.out
      have C6 : Upd W0 wr wb := (Upd.ext HA6.out).trans HUT.out
      have C5 : Upd W0 wa5 wb := HU6.out.trans (HU.out.trans C6)
      have C4 : Upd W0 wa4 wb := HU5.out.trans ((Upd.ext HA5.out).trans C5)
      have C3 : Upd W0 wa3 wb := HU4.out.trans ((Upd.ext HA4.out).trans C4)
      have C2 : Upd W0 wa2 wb := HU3.out.trans ((Upd.ext HA3.out).trans C3)
      have C1 : Upd W0 wa1 wb := HU2.out.trans ((Upd.ext HA2.out).trans C2)
      have hw0 := HRW.out 0 s.w0 (by omega) rfl
      have hw1 := HRW.out 1 s.w1 (by omega) rfl
      have hw2 := HRW.out 2 s.w2 (by omega) rfl
      have hw3 := HRW.out 3 s.w3 (by omega) rfl
      have hxz : Ext w wf := HXB.out.upd HUF.out (by omega)
      refine ⟨h', fun i => if i = 0 then w2.heap.size else if i = 1 then wa1.heap.size else if i = 2 then wa2.heap.size else if i = 3 then wa3.heap.size else if i = 4 then wa4.heap.size else if i = 5 then M 0 else if i = 6 then M 1 else if i = 7 then M 2 else if i = 8 then M 3 else if i = 9 then M 4 else wa.heap.size, rfl, ?_, (by have := HX1.out.size; exact this), hxz⟩
      have hh := HHH.out
      rw [HHC.out] at hh
      subst hh
      have g1 := hw0.1
      have g2 := hw1.1
      have g3 := hw2.1
      have g4 := hw3.1
      have g5 := hw0.2.1
      have g6 := hw1.2.1
      have g7 := hw2.2.1
      have g8 := hw3.2.1
      refine ⟨fun i hi => ?_, ?_, ?_, ?_, ?_, ?_, ?_, ?_, ?_, ?_, ?_, ?_⟩
      · obtain rfl | rfl | rfl | rfl | rfl | rfl | rfl | rfl | rfl | rfl : i = 0 ∨ i = 1 ∨ i = 2 ∨ i = 3 ∨ i = 4 ∨ i = 5 ∨ i = 6 ∨ i = 7 ∨ i = 8 ∨ i = 9 := by omega
        all_goals
          simp
          omega
      · show wa.heap.size ≤ wf.heap.size
        omega
      · exact (HO1.out.but (But.upd (S := fun i => i = W0 ∨ i = R) C1 (.inl rfl)) (fun b h1 h2 => by omega)).but (But.upd (S := fun i => i = W0 ∨ i = R) HUF.out (.inr rfl)) (fun b h1 h2 => by omega)
      · exact ⟨(OwnRows.lowB ((HO2.out.updB C2 (by omega)).updB HUF.out (by omega)) e2), HO2.out.underB⟩
      · exact ⟨(OwnRows.lowB ((HO3.out.updB C3 (by omega)).updB HUF.out (by omega)) e4), HO3.out.underB⟩
      · exact ⟨(OwnRows.lowB ((HO4.out.updB C4 (by omega)).updB HUF.out (by omega)) e6), HO4.out.underB⟩
      · exact ⟨(OwnInts.lower ((HO5.out.updB C5 (by omega)).updB HUF.out (by omega)) e8), fun b hb => by have := HO5.out.underB b hb; show b < M 0; omega⟩
      · exact ⟨(hw0.2.2.1.updB C6 (by omega)).updB HUF.out (by omega), hw0.2.2.2⟩
      · exact ⟨(hw1.2.2.1.updB C6 (by omega)).updB HUF.out (by omega), hw1.2.2.2⟩
      · exact ⟨(hw2.2.2.1.updB C6 (by omega)).updB HUF.out (by omega), hw2.2.2.2⟩
      · exact ⟨(hw3.2.2.1.updB C6 (by omega)).updB HUF.out (by omega), hw3.2.2.2⟩
      · exact ⟨OwnRows.lowB ((HO6.out.updB HUT.out (by omega)).updB HUF.out (by omega)) e15, HO6.out.underB⟩
def St.nil : St := ⟨[], [], [], [], [], 0, 0, 0, 0, [], [], [], [], [], 0, 0⟩
def StH.nil : StH := ⟨none, 0, none, 0, none, 0, none, 0, none, 0, none, 0, none, 0, none, 0, none, 0, none, 0⟩
theorem StOk.nil (w : World) : StOk w StH.nil St.nil :=
  ⟨⟨[], rfl, RowsAt.nil w, fun i u xs h => by simp at h⟩, RowsAt.nil w, RowsAt.nil w, RowsAt.nil w, (OwnInts.nil w 0).at.2, (OwnInts.nil w 0).at.2, (OwnInts.nil w 0).at.2, (OwnInts.nil w 0).at.2, (OwnInts.nil w 0).at.2, (RowsAt.nil w).pairs, fun p h => by simp [St.nil] at h⟩
def nilPr : Pr := ⟨0, 0, ⟨[0, 0, 0, 0, 0, 0, 0, 0], 0, 0⟩, 0⟩
def St.made (p : List (List (Int × Int))) (n : Int) : St := ⟨p, [⟨0, 0, 1, 0, 0⟩], List.replicate 8 nilPr, [], [1], 0, 0, 0, 0, [], [], [], [], [], 0, n⟩
def St.new (p : List (List (Int × Int))) (n : Int) : St × Int := if Pg.may p = true ∧ 1 ≤ n ∧ n ≤ 8 then (St.made p n, 0) else (St.nil, 1)
def StH.made (A : Option Addr) (c g q l : Nat) : StH := ⟨A, c, some ⟨g, 0, none⟩, 1, some ⟨q, 0, none⟩, 8, none, 0, some ⟨l, 0, none⟩, 1, none, 0, none, 0, none, 0, none, 0, none, 0⟩
theorem StOk.made {w : World} {A : Option Addr} {c g q l : Nat} {p : List (List (Int × Int))} {n : Int} (hp : NestAt 2 pairL w (.slice A p.length c) p) (hg : w.heap[g]? = some (.cells #[.int .i64 0, .int .i64 0, .int .i64 1, .int .i64 0, .int .i64 0] 55 (0, 0)))
    (hq : w.heap[q]? = some (.cells (madeCells #[.int .i64 0, .int .i64 0, .int .i64 0, .int .i64 0, .int .i64 0, .int .i64 0, .int .i64 0, .int .i64 0, .int .i64 0, .int .i64 0, .int .i64 0, .int .i64 0, .int .i64 0] 104) 40 (0, 0))) (hl : w.heap[l]? = some (.cells #[.int .i64 1] 3 (0, 0))) : StOk w (StH.made A c g q l) (St.made p n) := by
  refine ⟨hp, ⟨_, _, rfl, Nat.le_refl 1, fun _ => ⟨g, 0, rfl, blk_lt hg, fun j x hj i u hu => ?_⟩⟩, ⟨_, _, rfl, Nat.le_refl 8, fun _ => ⟨q, 0, rfl, blk_lt hq, fun j x hj i u hu => ?_⟩⟩, RowsAt.nil w, ⟨_, _, rfl, fun _ => ⟨l, 0, rfl, blk_lt hl, fun j x hj => ?_⟩⟩, (OwnInts.nil w 0).at.2, (OwnInts.nil w 0).at.2, (OwnInts.nil w 0).at.2, (OwnInts.nil w 0).at.2, (RowsAt.nil w).pairs, fun x hx => ?_⟩
  · match j with
    | 0 =>
      simp [St.made] at hj; subst hj
      refine blk_cell hg _ _ ?_
      simp only [Nat.zero_mul, Nat.zero_add]
      match i with
      | 0 | 1 | 2 | 3 | 4 => simp [gL] at hu; subst hu; rfl
      | i + 5 => simp [gL] at hu
    | j + 1 => simp [St.made] at hj
  · have hj8 : j < 8 := by have := (List.getElem?_eq_some_iff.1 hj).1; simpa [St.made] using this
    have hx : x = nilPr := by
      have : x ∈ List.replicate 8 nilPr := List.mem_of_getElem? hj
      exact List.eq_of_mem_replicate this
    subst hx
    have hi : i < 13 := by have := (List.getElem?_eq_some_iff.1 hu).1; simpa [pL] using this
    have hu0 : u = .int .i64 0 := by
      obtain rfl | rfl | rfl | rfl | rfl | rfl | rfl | rfl | rfl | rfl | rfl | rfl | rfl : i = 0 ∨ i = 1 ∨ i = 2 ∨ i = 3 ∨ i = 4 ∨ i = 5 ∨ i = 6 ∨ i = 7 ∨ i = 8 ∨ i = 9 ∨ i = 10 ∨ i = 11 ∨ i = 12 := by omega
      all_goals
        simp [pL, nilPr] at hu; exact hu.symm
    subst hu0
    refine blk_cell hq _ _ ?_
    have h1 : 0 + j * 13 + i < 104 := by omega
    simp only [madeCells, Array.getElem?_map, Array.getElem?_range, h1]
    have h2 : (0 + j * 13 + i) % 13 = i := by omega
    simp only [if_true, Option.map_some, Option.some.injEq]
    show (#[Value.int .i64 0, .int .i64 0, .int .i64 0, .int .i64 0, .int .i64 0, .int .i64 0, .int .i64 0, .int .i64 0, .int .i64 0, .int .i64 0, .int .i64 0, .int .i64 0, .int .i64 0])[(0 + j * 13 + i) % 13]! = _
    rw [h2]
    obtain rfl | rfl | rfl | rfl | rfl | rfl | rfl | rfl | rfl | rfl | rfl | rfl | rfl : i = 0 ∨ i = 1 ∨ i = 2 ∨ i = 3 ∨ i = 4 ∨ i = 5 ∨ i = 6 ∨ i = 7 ∨ i = 8 ∨ i = 9 ∨ i = 10 ∨ i = 11 ∨ i = 12 := by omega
    all_goals rfl
  · match j with
    | 0 => simp [St.made] at hj; subst hj; exact blk_cell hl _ _ rfl
    | j + 1 => simp [St.made] at hj
  · have : x = nilPr := List.eq_of_mem_replicate (show x ∈ List.replicate 8 nilPr from hx)
    subst this
    rfl
theorem make_ps (w : World) : (Instr.makeSlice 25 (.int .i64 8) (.int .i64 8)).run Try.prog w = .ok (.slice (some ⟨w.heap.size, 0, none⟩) 8 8) (w.alloc (.cells (madeCells #[.int .i64 0, .int .i64 0, .int .i64 0, .int .i64 0, .int .i64 0, .int .i64 0, .int .i64 0, .int .i64 0, .int .i64 0, .int .i64 0, .int .i64 0, .int .i64 0, .int .i64 0] 104) 40)) := by
  obtain ⟨i0, I0, I1, I2, I3⟩ := info_parts Try.infoP
  have := run_make (P := Try.prog) w 25 40 i0 (.agg #[.int .i64 0, .int .i64 0, .int .i64 0, .int .i64 0, .int .i64 0, .int .i64 0, .int .i64 0, .int .i64 0, .int .i64 0, .int .i64 0, .int .i64 0, .int .i64 0, .int .i64 0]) Try.underlying25 I0 I1 .i64 .i64 8 8 (by omega) (by omega) (by rw [I3]; decide) (by omega)
  rw [I2] at this
  exact this
theorem St.new_no {p : List (List (Int × Int))} {n : Int} (h : ¬ (Pg.may p = true ∧ 1 ≤ n ∧ n ≤ 8)) : St.new p n = (St.nil, 1) := if_neg h
theorem St.new_yes {p : List (List (Int × Int))} {n : Int} (h : Pg.may p = true ∧ 1 ≤ n ∧ n ≤ 8) : St.new p n = (St.made p n, 0) := if_pos h
section
variable {P : Program} {ops : Array Oper} {Q : Exit → Act → World → Prop}
def LowSame (M : Nat) (w w' : World) : Prop := ∀ b, b < M → w'.heap[b]? = w.heap[b]?
theorem LowSame.ext {M : Nat} {w w' : World} (h : Ext w w') (hM : M ≤ w.heap.size) : LowSame M w w' := fun b hb => h.block b (by omega)
def chgOfM (w0 : World) (M : Nat) : List (Nat × Nat × List Nat) → Nat → (Nat → GV) → World → World → Prop
  | [], _, _ => Ext
  | p :: l, i, u => if p.1 = i then fun w w' => ChgIn w0 p.2.1 (p.2.2.map u) w w' ∧ LowSame M w w' else chgOfM w0 M l i u
theorem chgOfM_cases (w0 : World) (M : Nat) (cs : List (Nat × Nat × List Nat)) (i : Nat) : (∀ u, chgOfM w0 M cs i u = Ext) ∨ ∃ n js, (i, n, js) ∈ cs ∧ ∀ u, chgOfM w0 M cs i u = fun w w' => ChgIn w0 n (js.map u) w w' ∧ LowSame M w w' := by
  induction cs with
  | nil => exact .inl fun _ => rfl
  | cons p l ih =>
    by_cases h : p.1 = i
    · refine .inr ⟨p.2.1, p.2.2, by rw [← h]; simp, fun u => ?_⟩
      conv => lhs; unfold chgOfM
      rw [if_pos h]
    · rcases ih with ih | ⟨n, js, h1, h2⟩
      · refine .inl fun u => ?_
        conv => lhs; unfold chgOfM
        rw [if_neg h]; exact ih u
      · refine .inr ⟨n, js, by simp [h1], fun u => ?_⟩
        conv => lhs; unfold chgOfM
        rw [if_neg h]; exact h2 u
def zOf (g z : Nat) (K : World → Prop) (E : Nat → (Nat → GV) → World → World → Prop) (i : Nat) (u : Nat → GV) : World → World → Prop := if i = z then fun w w' => Upd g w w' ∧ K w' else E i u
theorem region_rgz (l : Fam) (w0 : World) (M g z : Nat) (K : World → Prop) (cs : List (Nat × Nat × List Nat)) {id : Nat} {a : Act} {w : World} (hm : P.follows .mixedOrders = true) (hok : rgOk .any ops (rgMasks .any ops) = true)
    (hcs : ∀ p ∈ cs, ∀ j ∈ p.2.2, (rgPre (rgMasks .any ops) p.1 j && famM l j) = true)
    (hl : ∀ p ∈ l, (∃ u, p.2.1 u) ∧ (∀ u v w, (∀ j, (j = p.1 ∨ rgPre (rgMasks .any ops) p.1 j = true) → famM l j = true → u j = v j) → p.2.2 u w → p.2.2 v w) ∧ (∀ u w w', Ext w w' → p.2.2 u w → p.2.2 u w') ∧
      (∀ q ∈ cs, q.1 ≠ p.1 → rgPre (rgMasks .any ops) p.1 q.1 = false → ∀ u w w', (∀ j ∈ q.2.2, p.1 ≠ j → (u j).apart (u p.1)) → ChgIn w0 q.2.1 (q.2.2.map u) w w' → p.2.2 u w → p.2.2 u w') ∧
      (p.1 ≠ z → ∀ u w w', Upd g w w' → p.2.2 u w → p.2.2 u w'))
    (hg : w0.heap.size ≤ g) (hKL : ∀ w w', LowSame M w w' → K w → K w') (hB : Ext w0 w) (hM : M ≤ w.heap.size) (hK : K w)
    (h : RG P ops Q (rgMasks .any ops) (famM l) (famV l) (famT l) (zOf g z K (chgOfM w0 M cs)) (fun w => Ext w0 w ∧ M ≤ w.heap.size ∧ K w) ops.size 0 [] a) : (Code.region id ops true).wp P Q a w := by
  refine region_rg (rgMasks .any ops) (famM l) (famV l) (famT l) (zOf g z K (chgOfM w0 M cs)) (fun w => Ext w0 w ∧ M ≤ w.heap.size ∧ K w) hm hok (fun k _ => famV_some (fun p hp => (hl p hp).1) k) (fun k u v w => famT_loc (fun p hp => (hl p hp).2.1) k u v w) ?_ ?_ ?_ ⟨hB.drew, hM, hKL w w.drew (fun b _ => rfl) hK⟩ h
  · intro i u w w' hw hE
    unfold zOf at hE
    split at hE
    · exact ⟨⟨hw.1.upd hE.1 hg, Nat.le_trans hw.2.1 hE.1.size, hE.2⟩, hE.1.size⟩
    · rcases chgOfM_cases w0 M cs i with h | ⟨n, js, _, h⟩
      · rw [h] at hE; exact ⟨⟨hw.1.trans hE, Nat.le_trans hw.2.1 hE.size, hKL _ _ (LowSame.ext hE hw.2.1) hw.2.2⟩, hE.size⟩
      · rw [h] at hE; exact ⟨⟨hE.1.new, Nat.le_trans hw.2.1 hE.1.size, hKL _ _ hE.2 hw.2.2⟩, hE.1.size⟩
  · intro i u v w w' hj hE
    unfold zOf at hE ⊢
    split
    · rename_i hi; rwa [if_pos hi] at hE
    · rename_i hi
      rw [if_neg hi] at hE
      rcases chgOfM_cases w0 M cs i with h | ⟨n, js, hm, h⟩
      · rw [h] at hE ⊢; exact hE
      · rw [h] at hE ⊢
        have e : js.map u = js.map v := List.map_congr_left fun j hjm => by
          have := hcs _ hm j hjm
          simp only [Bool.and_eq_true] at this
          exact hj j (.inr this.1) this.2
        rwa [← e]
  · intro i k u w w' hik hpk _ hmk hap hT hE
    unfold zOf at hE
    split at hE
    · rename_i hi
      exact famT_at k (fun t => t u w → t u w') (fun _ => trivial) (fun p hp he => (hl p hp).2.2.2.2 (by rw [he, ← hi]; exact Ne.symm hik) u w w' hE.1) hT
    · rcases chgOfM_cases w0 M cs i with h | ⟨n, js, hm, h⟩
      · rw [h] at hE
        exact famT_ext (fun p hp => (hl p hp).2.2.1) k u w w' hT hE
      · rw [h] at hE
        exact famT_at k (fun t => t u w → t u w') (fun _ => trivial) (fun p hp he => (hl p hp).2.2.2.1 (i, n, js) hm (by rw [he]; exact hik) (by rw [he]; exact hpk) u w w' (fun j hjm hne => by
          have := hcs _ hm j hjm
          simp only [Bool.and_eq_true] at this
          rw [he]
          exact hap j k (.inr this.1) (.inl rfl) this.2 hmk (fun e => hne (by rw [he, e]))) hE.1) hT
end
section
variable {α : Type} {m : Nat} {f : α → List Value} {w w' w0 : World} {v : Value} {xs ys : List α} {e : TypeId} {B M g n : Nat} {gs hs : List GV}
end
structure StApart (B : Nat) (w : World) (I : Nat → Nat × Nat) (h : StH) (s : St) : Prop where
  low : ∀ i, i < 10 → B ≤ (I i).1 ∧ (I i).1 ≤ (I i).2 ∧ (I i).2 ≤ w.heap.size
  apart : ∀ i j, i < 10 → j < 10 → i ≠ j → (I i).2 ≤ (I j).1 ∨ (I j).2 ≤ (I i).1
  prog : NestIn (I 0).1 (I 0).2 2 pairL w (.slice h.pa s.prog.length h.pc) s.prog
  gs : OwnRows 55 5 gL w (I 1).1 (.slice h.ga s.gs.length h.gc) s.gs ∧ UnderB (.slice h.ga s.gs.length h.gc) (I 1).2
  ps : OwnRows 40 13 pL w (I 2).1 (.slice h.qa s.ps.length h.qc) s.ps ∧ UnderB (.slice h.qa s.ps.length h.qc) (I 2).2
  ms : OwnRows 57 2 pairL w (I 3).1 (.slice h.ma s.ms.length h.mc) s.ms ∧ UnderB (.slice h.ma s.ms.length h.mc) (I 3).2
  glob : OwnInts w (I 4).1 (.slice h.la s.glob.length h.lc) s.glob ∧ UnderB (.slice h.la s.glob.length h.lc) (I 4).2
  w0 : OwnInts w (I 5).1 (.slice h.a0 s.w0.length h.k0) s.w0 ∧ UnderB (.slice h.a0 s.w0.length h.k0) (I 5).2
  w1 : OwnInts w (I 6).1 (.slice h.a1 s.w1.length h.k1) s.w1 ∧ UnderB (.slice h.a1 s.w1.length h.k1) (I 6).2
  w2 : OwnInts w (I 7).1 (.slice h.a2 s.w2.length h.k2) s.w2 ∧ UnderB (.slice h.a2 s.w2.length h.k2) (I 7).2
  w3 : OwnInts w (I 8).1 (.slice h.a3 s.w3.length h.k3) s.w3 ∧ UnderB (.slice h.a3 s.w3.length h.k3) (I 8).2
  timers : OwnTs w (I 9).1 (.slice h.ta s.timers.length h.tc) s.timers ∧ UnderB (.slice h.ta s.timers.length h.tc) (I 9).2
theorem StApart.ok {B : Nat} {w : World} {I : Nat → Nat × Nat} {h : StH} {s : St} (k : StApart B w I h s) (hb : ∀ p ∈ s.ps, p.ring.buf.length = 8) : StOk w h s :=
  ⟨k.prog.nest, OwnRows.rows gL_len k.gs.1, OwnRows.rows pL_len k.ps.1, OwnRows.rows pairL_len k.ms.1, k.glob.1.at.2, k.w0.1.at.2, k.w1.1.at.2, k.w2.1.at.2, k.w3.1.at.2, k.timers.1.pairs, hb⟩
section
variable {P : Program}
theorem run_part_agg {e : TypeId} {d : TypeDesc} {i : TypeInfo} (hu : P.underlying e = some d) (hd : d.isRow = true) (hi : P.info? e = some i) (xs : Array Value) (off : Nat) (w : World) : (part e xs off).run P w = .ok (.agg (xs.extract off (off + P.cellsOf e))) w := by
  cases d <;> first | (simp [TypeDesc.isRow] at hd; done) | simp [part, isAgg, run_underlying hu, run_sizeOf w hi]
theorem run_part_aggN {e : TypeId} {d : TypeDesc} {i : TypeInfo} (n : Nat) (hc : P.cellsOf e = n) (hu : P.underlying e = some d) (hd : d.isRow = true) (hi : P.info? e = some i) (xs : Array Value) (off : Nat) (w : World) : (part e xs off).run P w = .ok (.agg (xs.extract off (off + n))) w := by
  subst hc
  exact run_part_agg hu hd hi xs off w
theorem run_eqFields_all (d : Nat) (xs ys : Array Value) (R : Nat → Bool) (w : World) : ∀ fs : List Field, (∀ f ∈ fs, f.name ≠ "_" ∧ ∃ a b, (part f.type xs f.offset).run P w = .ok a w ∧ (part f.type ys f.offset).run P w = .ok b w ∧ (Op.equalIn d f.type a b).run P w = .ok (R f.offset) w) →
    (Op.eqFields d xs ys fs).run P w = .ok (fs.all fun f => R f.offset) w
  | [], _ => by simp [Op.eqFields]
  | f :: fs, h => by
    obtain ⟨hn, a, b, p1, p2, p3⟩ := h f (by simp)
    have ih := run_eqFields_all d xs ys R w fs fun g hg => h g (by simp [hg])
    simp only [Op.eqFields, hn, ne_eq, not_false_eq_true, if_true, Sem.run_bind, p1, p2, p3, Result.andThen_ok, List.all_cons]
    cases hr : R f.offset with
    | false => simp
    | true => simpa using ih
def FieldsAre (P : Program) (t : TypeId) (fs : List (TypeId × Nat)) : Bool := !P.stoodInHeld t && (P.fieldsOf t).toList.all (fun e => e.name != "_") && (P.fieldsOf t).toList.map (fun e => (e.type, e.offset)) == fs
theorem run_eqStruct {t : TypeId} (ht : P.underlying t = some (.struct (P.fieldsOf t))) (fs : List (TypeId × Nat)) (hs : FieldsAre P t fs = true) (d : Nat) (xs ys : Array Value) (R : Nat → Bool) (w : World)
    (h : ∀ f ∈ fs, ∃ a b, (part f.1 xs f.2).run P w = .ok a w ∧ (part f.1 ys f.2).run P w = .ok b w ∧ (Op.equalIn d f.1 a b).run P w = .ok (R f.2) w) : (Op.equalIn (d + 1) t (.agg xs) (.agg ys)).run P w = .ok (fs.all fun f => R f.2) w := by
  unfold FieldsAre at hs
  simp only [Bool.and_eq_true, Bool.not_eq_true', beq_iff_eq] at hs
  obtain ⟨⟨h1, h2⟩, h3⟩ := hs
  rw [run_equalIn_struct w d _ _ _ ht h1, run_eqFields_all d xs ys R w _ fun f hf => by
    have hn := List.all_eq_true.1 h2 f hf
    refine ⟨by simpa using hn, ?_⟩
    exact h (f.type, f.offset) (by rw [← h3]; exact List.mem_map_of_mem hf)]
  congr 1
  rw [← h3, List.all_map]
  rfl
theorem run_eqItems_all (d : Nat) (e : TypeId) (m : Nat) (xs ys : Array Value) (R : Nat → Bool) (w : World) : ∀ is : List Nat, (∀ i ∈ is, ∃ a b, (part e xs (i * m)).run P w = .ok a w ∧ (part e ys (i * m)).run P w = .ok b w ∧ (Op.equalIn d e a b).run P w = .ok (R i) w) →
    (Op.eqItems d e m xs ys is).run P w = .ok (is.all R) w
  | [], _ => by simp [Op.eqItems]
  | i :: is, h => by
    obtain ⟨a, b, p1, p2, p3⟩ := h i (by simp)
    have ih := run_eqItems_all d e m xs ys R w is fun j hj => h j (by simp [hj])
    simp only [Op.eqItems, Sem.run_bind, p1, p2, p3, Result.andThen_ok, List.all_cons]
    cases hr : R i with
    | false => simp
    | true => simpa using ih
theorem run_eqArr {t ti : TypeId} (n : Nat) (ht : P.underlying t = some (.array n ti)) (hi : P.underlying ti = some (.int .i64)) (hp : P.plainKey ti = true) (hc : P.cellsOf ti = 1) (d : Nat) (f g : List Int) (hf : f.length = n) (hg : g.length = n) (w : World) :
    (Op.equalIn (d + 2) t (.agg (f.map (Value.int .i64)).toArray) (.agg (g.map (Value.int .i64)).toArray)).run P w = .ok (decide (f = g)) w := by
  obtain ⟨i, hii⟩ := info_of_underlying hi
  rw [run_equalIn_array w (d + 1) _ _ ht hii, hc, run_eqItems_all (d + 1) ti 1 _ _ (fun j => f.getD j 0 == g.getD j 0) w _ fun j hj => by
    have hj' := List.mem_range.1 hj
    refine ⟨.int .i64 (f.getD j 0), .int .i64 (g.getD j 0), run_part_plain w hp ?_, run_part_plain w hp ?_, run_equalIn_int w d ti .i64 .i64 _ _ hi⟩
    · rw [Nat.mul_one, List.getElem?_toArray, List.getElem?_map, List.getElem?_eq_getElem (by omega)]; simp [List.getD, List.getElem?_eq_getElem (show j < f.length by omega)]
    · rw [Nat.mul_one, List.getElem?_toArray, List.getElem?_map, List.getElem?_eq_getElem (by omega)]; simp [List.getD, List.getElem?_eq_getElem (show j < g.length by omega)]]
  congr 1
  rw [Bool.eq_iff_iff, List.all_eq_true, decide_eq_true_eq]
  constructor
  · intro h
    apply List.ext_getElem (by omega)
    intro i hi1 hi2
    have := h i (List.mem_range.2 (by omega))
    simpa [List.getD, List.getElem?_eq_getElem hi1, List.getElem?_eq_getElem hi2] using this
  · rintro rfl i _
    simp
end
theorem run_eqGr (a b c d e a' b' c' d' e' : Int) (w : World) : (Op.equalIn 10000 55 (.agg #[.int .i64 a, .int .i64 b, .int .i64 c, .int .i64 d, .int .i64 e]) (.agg #[.int .i64 a', .int .i64 b', .int .i64 c', .int .i64 d', .int .i64 e'])).run Try.prog w = .ok (decide ([a, b, c, d, e] = [a', b', c', d', e'])) w :=
  run_eqInts (ti := 3) Try.underlying3 (by kernel_rfl) (by kernel_rfl) 5 (by kernel_rfl) [a, b, c, d, e] [a', b', c', d', e'] rfl rfl w
theorem run_eqM (a b a' b' : Int) (w : World) : (Op.equalIn 10000 57 (.agg #[.int .i64 a, .int .i64 b]) (.agg #[.int .i64 a', .int .i64 b'])).run Try.prog w = .ok (decide ([a, b] = [a', b'])) w :=
  run_eqInts (ti := 3) Try.underlying3 (by kernel_rfl) (by kernel_rfl) 2 (by kernel_rfl) [a, b] [a', b'] rfl rfl w
theorem run_eqInstr (a b a' b' : Int) (w : World) : (Op.equalIn 10000 68 (.agg #[.int .i64 a, .int .i64 b]) (.agg #[.int .i64 a', .int .i64 b'])).run Try.prog w = .ok (decide ([a, b] = [a', b'])) w :=
  run_eqInts (ti := 3) Try.underlying3 (by kernel_rfl) (by kernel_rfl) 2 (by kernel_rfl) [a, b] [a', b'] rfl rfl w
theorem run_eqPlace (a b a' b' : Int) (w : World) : (Op.equalIn 10000 52 (.agg #[.int .i64 a, .int .i64 b]) (.agg #[.int .i64 a', .int .i64 b'])).run Try.prog w = .ok (decide ([a, b] = [a', b'])) w :=
  run_eqInts (ti := 3) Try.underlying3 (by kernel_rfl) (by kernel_rfl) 2 (by kernel_rfl) [a, b] [a', b'] rfl rfl w
theorem run_eq4 (a0 a1 a2 a3 b0 b1 b2 b3 : Int) (w : World) : (Op.equalIn 10000 28 (.agg #[.int .i64 a0, .int .i64 a1, .int .i64 a2, .int .i64 a3]) (.agg #[.int .i64 b0, .int .i64 b1, .int .i64 b2, .int .i64 b3])).run Try.prog w = .ok (decide ([a0, a1, a2, a3] = [b0, b1, b2, b3])) w :=
  run_eqArr 4 Try.underlying28 Try.underlying3 (by kernel_rfl) (by kernel_rfl) 9998 [a0, a1, a2, a3] [b0, b1, b2, b3] rfl rfl w
set_option maxRecDepth 100000 in
theorem run_eqRi (d : Nat) (a0 a1 a2 a3 a4 a5 a6 a7 a8 a9 b0 b1 b2 b3 b4 b5 b6 b7 b8 b9 : Int) (w : World) : (Op.equalIn (d + 3) 38 (.agg #[.int .i64 a0, .int .i64 a1, .int .i64 a2, .int .i64 a3, .int .i64 a4, .int .i64 a5, .int .i64 a6, .int .i64 a7, .int .i64 a8, .int .i64 a9]) (.agg #[.int .i64 b0, .int .i64 b1, .int .i64 b2, .int .i64 b3, .int .i64 b4, .int .i64 b5, .int .i64 b6, .int .i64 b7, .int .i64 b8, .int .i64 b9])).run Try.prog w = .ok (decide ([a0, a1, a2, a3, a4, a5, a6, a7, a8, a9] = [b0, b1, b2, b3, b4, b5, b6, b7, b8, b9])) w := by
  obtain ⟨i, hi⟩ := info_of_underlying Try.underlying36
  have c8 : Try.prog.cellsOf 36 = 8 := by kernel_rfl
  have p1 := run_part_aggN 8 c8 Try.underlying36 rfl hi #[.int .i64 a0, .int .i64 a1, .int .i64 a2, .int .i64 a3, .int .i64 a4, .int .i64 a5, .int .i64 a6, .int .i64 a7, .int .i64 a8, .int .i64 a9] 0 w
  have p2 := run_part_aggN 8 c8 Try.underlying36 rfl hi #[.int .i64 b0, .int .i64 b1, .int .i64 b2, .int .i64 b3, .int .i64 b4, .int .i64 b5, .int .i64 b6, .int .i64 b7, .int .i64 b8, .int .i64 b9] 0 w
  refine (run_eqStruct (P := Try.prog) Try.underlying38 [(36, 0), (3, 8), (3, 9)] (by kernel_rfl) (d + 2) _ _ (fun o => if o = 0 then decide ([a0, a1, a2, a3, a4, a5, a6, a7] = [b0, b1, b2, b3, b4, b5, b6, b7]) else if o = 8 then a8 == b8 else a9 == b9) w fun f hf => by
    simp only [List.mem_cons, List.not_mem_nil, or_false] at hf
    rcases hf with rfl | rfl | rfl
    · exact ⟨_, _, p1, p2, run_eqArr 8 Try.underlying36 Try.underlying3 (by kernel_rfl) (by kernel_rfl) d [a0, a1, a2, a3, a4, a5, a6, a7] [b0, b1, b2, b3, b4, b5, b6, b7] rfl rfl w⟩
    · exact ⟨_, _, run_part_plain w (by kernel_rfl) rfl, run_part_plain w (by kernel_rfl) rfl, run_equalIn_int w _ _ .i64 .i64 _ _ Try.underlying3⟩
    · exact ⟨_, _, run_part_plain w (by kernel_rfl) rfl, run_part_plain w (by kernel_rfl) rfl, run_equalIn_int w _ _ .i64 .i64 _ _ Try.underlying3⟩).trans ?_
  congr 1
  rw [Bool.eq_iff_iff]
  simp [and_assoc]
set_option maxRecDepth 100000 in
theorem run_eqPr (a0 a1 a2 a3 a4 a5 a6 a7 a8 a9 a10 a11 a12 b0 b1 b2 b3 b4 b5 b6 b7 b8 b9 b10 b11 b12 : Int) (w : World) : (Op.equalIn 10000 40 (.agg #[.int .i64 a0, .int .i64 a1, .int .i64 a2, .int .i64 a3, .int .i64 a4, .int .i64 a5, .int .i64 a6, .int .i64 a7, .int .i64 a8, .int .i64 a9, .int .i64 a10, .int .i64 a11, .int .i64 a12]) (.agg #[.int .i64 b0, .int .i64 b1, .int .i64 b2, .int .i64 b3, .int .i64 b4, .int .i64 b5, .int .i64 b6, .int .i64 b7, .int .i64 b8, .int .i64 b9, .int .i64 b10, .int .i64 b11, .int .i64 b12])).run Try.prog w = .ok (decide ([a0, a1, a2, a3, a4, a5, a6, a7, a8, a9, a10, a11, a12] = [b0, b1, b2, b3, b4, b5, b6, b7, b8, b9, b10, b11, b12])) w := by
  obtain ⟨i, hi⟩ := info_of_underlying Try.underlying38
  have c8 : Try.prog.cellsOf 38 = 10 := by kernel_rfl
  have p1 := run_part_aggN 10 c8 Try.underlying38 rfl hi #[.int .i64 a0, .int .i64 a1, .int .i64 a2, .int .i64 a3, .int .i64 a4, .int .i64 a5, .int .i64 a6, .int .i64 a7, .int .i64 a8, .int .i64 a9, .int .i64 a10, .int .i64 a11, .int .i64 a12] 2 w
  have p2 := run_part_aggN 10 c8 Try.underlying38 rfl hi #[.int .i64 b0, .int .i64 b1, .int .i64 b2, .int .i64 b3, .int .i64 b4, .int .i64 b5, .int .i64 b6, .int .i64 b7, .int .i64 b8, .int .i64 b9, .int .i64 b10, .int .i64 b11, .int .i64 b12] 2 w
  refine (run_eqStruct (P := Try.prog) Try.underlying40 [(3, 0), (3, 1), (38, 2), (3, 12)] (by kernel_rfl) 9999 _ _ (fun o => if o = 0 then a0 == b0 else if o = 1 then a1 == b1 else if o = 2 then decide ([a2, a3, a4, a5, a6, a7, a8, a9, a10, a11] = [b2, b3, b4, b5, b6, b7, b8, b9, b10, b11]) else a12 == b12) w fun f hf => by
    simp only [List.mem_cons, List.not_mem_nil, or_false] at hf
    rcases hf with rfl | rfl | rfl | rfl
    · exact ⟨_, _, run_part_plain w (by kernel_rfl) rfl, run_part_plain w (by kernel_rfl) rfl, run_equalIn_int w _ _ .i64 .i64 _ _ Try.underlying3⟩
    · exact ⟨_, _, run_part_plain w (by kernel_rfl) rfl, run_part_plain w (by kernel_rfl) rfl, run_equalIn_int w _ _ .i64 .i64 _ _ Try.underlying3⟩
    · exact ⟨_, _, p1, p2, run_eqRi 9996 a2 a3 a4 a5 a6 a7 a8 a9 a10 a11 b2 b3 b4 b5 b6 b7 b8 b9 b10 b11 w⟩
    · exact ⟨_, _, run_part_plain w (by kernel_rfl) rfl, run_part_plain w (by kernel_rfl) rfl, run_equalIn_int w _ _ .i64 .i64 _ _ Try.underlying3⟩).trans ?_
  congr 1
  rw [Bool.eq_iff_iff]
  simp [and_assoc]
end Go.Proofs.Ytogcfndhcphpaaa
