/-
  Several texts in one: Tzb, Tzc, Tzd, Sd, Se, Sf, Sg.
-/
import Derived.Test.YtogcfndhcphpaaaC05
import Derived.Test.YtogcfndhcphpaaaC09
import Derived.Test.YtogcfndhcphpaaaC04
import Derived.Test.YtogcfndhcphpaaaC01
import Derived.Test.YtogcfndhcphpaaaC06
import Derived.Test.YtogcfndhcphpaaaC03
set_option linter.unusedVariables false
set_option linter.unusedSimpArgs false
namespace Go.Proofs.Ytogcfndhcphpaaa
open Go.RowKit
theorem eq_of_take {α : Type} {a b : List α} (hl : a.length = b.length) (h : a.take a.length = b.take a.length) : a = b := by
  rw [List.take_length, hl, List.take_length] at h; exact h
theorem ne_of_get {α : Type} {a b : List α} {k : Nat} {x y : α} (hx : a[k]? = some x) (hy : b[k]? = some y) (h : x ≠ y) : a ≠ b := by
  rintro rfl; rw [hx] at hy; exact h (Option.some.inj hy)
theorem take_eq_next {α : Type} {a b : List α} {k : Nat} {x : α} (h : a.take k = b.take k) (hx : a[k]? = some x) (hy : b[k]? = some x) : a.take (k + 1) = b.take (k + 1) := by
  obtain ⟨h1, h2⟩ := List.getElem?_eq_some_iff.1 hx
  obtain ⟨h3, h4⟩ := List.getElem?_eq_some_iff.1 hy
  rw [List.take_succ_eq_append_getElem h1, List.take_succ_eq_append_getElem h3, h, h2, h4]
theorem RowsAt.range {α : Type} {m : Nat} {f : α → List Value} {w : World} {A : Option Addr} {n c : Nat} {xs : List α} (h : RowsAt m f w (.slice A n c) xs) {k : Nat} {x : α} (hk : xs[k]? = some x) :
    ∃ b o, A = some ⟨b, o, none⟩ ∧ b < w.heap.size ∧ w.rangeAt b (o + k * m) (f x) := by
  obtain ⟨b, o, hA, hb, hc⟩ := h.get hk
  exact ⟨b, o, hA, hb, fun j v hj => hc j v hj⟩
theorem range_ext {w w' : World} {b o : Nat} {cs : List Value} (h : w.rangeAt b o cs) (hb : b < w.heap.size) (hx : Ext w w') : w'.rangeAt b o cs := fun j v hj => by
  rw [Below.cell hx hb]; exact h j v hj
theorem eqG_run (g g' : Gr) (b : Bool) (hb : b = true ↔ g = g') (w : World) : (Op.equalIn 10000 55 (.agg (gL g).toArray) (.agg (gL g').toArray)).run Try.prog w = .ok b w := by
  obtain ⟨a1, a2, a3, a4, a5⟩ := g
  obtain ⟨b1, b2, b3, b4, b5⟩ := g'
  refine (run_eqGr a1 a2 a3 a4 a5 b1 b2 b3 b4 b5 w).trans ?_
  congr 1
  rw [Bool.eq_iff_iff, hb]
  simp
theorem eqM_run (g g' : Int × Int) (b : Bool) (hb : b = true ↔ g = g') (w : World) : (Op.equalIn 10000 57 (.agg (pairL g).toArray) (.agg (pairL g').toArray)).run Try.prog w = .ok b w := by
  obtain ⟨a1, a2⟩ := g
  obtain ⟨b1, b2⟩ := g'
  refine (run_eqM a1 a2 b1 b2 w).trans ?_
  congr 1
  rw [Bool.eq_iff_iff, hb]
  simp
theorem eqI_run (g g' : Int × Int) (b : Bool) (hb : b = true ↔ g = g') (w : World) : (Op.equalIn 10000 68 (.agg (pairL g).toArray) (.agg (pairL g').toArray)).run Try.prog w = .ok b w := by
  obtain ⟨a1, a2⟩ := g
  obtain ⟨b1, b2⟩ := g'
  refine (run_eqInstr a1 a2 b1 b2 w).trans ?_
  congr 1
  rw [Bool.eq_iff_iff, hb]
  simp
def pL13 (p : Pr) : List Value := [.int .i64 p.m, .int .i64 p.next, .int .i64 (p.ring.buf.getD 0 0), .int .i64 (p.ring.buf.getD 1 0), .int .i64 (p.ring.buf.getD 2 0), .int .i64 (p.ring.buf.getD 3 0), .int .i64 (p.ring.buf.getD 4 0), .int .i64 (p.ring.buf.getD 5 0), .int .i64 (p.ring.buf.getD 6 0), .int .i64 (p.ring.buf.getD 7 0), .int .i64 p.ring.head, .int .i64 p.ring.n, .int .i64 p.seq]
theorem pL13_eq {p : Pr} (h : p.ring.buf.length = 8) : pL p = pL13 p := by
  obtain ⟨m, nx, r, sq⟩ := p
  obtain ⟨b0, b1, b2, b3, b4, b5, b6, b7, hd, nn, rfl⟩ := Ri.open8 h
  rfl
theorem eqP_run (g g' : Pr) (h : g.ring.buf.length = 8) (h' : g'.ring.buf.length = 8) (b : Bool) (hb : b = true ↔ g = g') (w : World) : (Op.equalIn 10000 40 (.agg (pL13 g).toArray) (.agg (pL13 g').toArray)).run Try.prog w = .ok b w := by
  obtain ⟨m, nx, r, sq⟩ := g
  obtain ⟨b0, b1, b2, b3, b4, b5, b6, b7, hd, nn, rfl⟩ := Ri.open8 h
  obtain ⟨m', nx', r', sq'⟩ := g'
  obtain ⟨c0, c1, c2, c3, c4, c5, c6, c7, hd', nn', rfl⟩ := Ri.open8 h'
  refine (run_eqPr m nx b0 b1 b2 b3 b4 b5 b6 b7 hd nn sq m' nx' c0 c1 c2 c3 c4 c5 c6 c7 hd' nn' sq' w).trans ?_
  congr 1
  rw [Bool.eq_iff_iff, hb]
  simp [and_assoc]
set_option maxRecDepth 100000 in
set_option maxHeartbeats 4000000 in
theorem rgs_any (A A' : Option Addr) (c c' : Nat) (a b : List Gr) (r : Bool) (hr : r = true ↔ a = b) (w : World) (h1 : RowsAt 5 gL w (.slice A a.length c) a) (h2 : RowsAt 5 gL w (.slice A' b.length c') b) (ha : a.length ≤ 1000000) :
    Calls Try.prog 64 #[.slice A a.length c, .slice A' b.length c'] w fun e w' => e = .returned (.bool r) ∧ Ext w w' := by
  have H1 := Lib.hid h1
  have H2 := Lib.hid h2
  have HR := Lib.hid hr
  clear h1 h2 hr
  by_cases hl : a.length = b.length
  · have HL := Lib.hid hl
    have hl' : ((a.length : Int) != (b.length : Int)) = false := by simp; omega
    clear hl
    go_enter Try.func64, Try.ntmps64
    go_wp2
    go_loopw [5] (fun iv wr => ∃ k : Nat, k ≤ a.length ∧ iv = .int .i64 k ∧ a.take k = b.take k ∧ Ext w wr) (fun iv _ => a.length - (intOf iv).toNat)
    case atStart => exact ⟨0, by omega, rfl, rfl, Ext.refl _⟩
    case round =>
      obtain ⟨k, hk, rfl, heq, hx⟩ := hrel
      have HX := Lib.hid hx
      have HEQ := Lib.hid heq
      clear hx heq
      by_cases hlt : k < a.length
      · obtain ⟨x, hxa⟩ : ∃ x, a[k]? = some x := ⟨_, List.getElem?_eq_getElem hlt⟩
        obtain ⟨y, hyb⟩ : ∃ y, b[k]? = some y := ⟨_, List.getElem?_eq_getElem (by have := HL.out; omega)⟩
        obtain ⟨ba, oa, rfl, hba, hra⟩ := H1.out.range hxa
        obtain ⟨bb, ob, rfl, hbb, hrb⟩ := H2.out.range hyb
        have HRA : Hid (∀ v, Ext wr v → v.rangeAt ba (oa + k * 5) (gL x)) := Lib.hid fun v hv => range_ext hra hba (HX.out.trans hv)
        have HRB : Hid (∀ v, Ext wr v → v.rangeAt bb (ob + k * 5) (gL y)) := Lib.hid fun v hv => range_ext hrb hbb (HX.out.trans hv)
        have i0 : (0 : Int) ≤ (k : Int) := by omega
        have i1 : (k : Int) < (a.length : Int) := by omega
        have i2 : (k : Int) < (b.length : Int) := by have := HL.out; omega
        have HN : Hid (x ≠ y → r = false) := Lib.hid fun h => by
          cases r with
          | false => rfl
          | true => exact absurd (HR.out.1 rfl) (ne_of_get hxa hyb h)
        have HY : Hid (x = y → a.take (k + 1) = b.take (k + 1)) := Lib.hid fun h => take_eq_next HEQ.out hxa (by rw [h]; exact hyb)
        clear hba hra hbb hrb hxa hyb
        go_wp2
        by_cases hxy : x = y
        · have hq : ∀ w, (Op.equalIn 10000 55 (.agg (gL x).toArray) (.agg (gL y).toArray)).run Try.prog w = .ok true w := fun w => eqG_run x y true (by simp [hxy]) w
          have HN2 := Lib.hid (HY.out hxy)
          clear hxy
          refine region_rgx ([]) (wr) (by kernel_rfl) (by kernel_rfl) ?_ ?_ ?_
          · exact List.forall_mem_nil _
          · first | assumption | exact Ext.refl _
          refine rg_pure (v := ?_) rfl (by kernel_rfl) (by kernel_rfl) (fun w hS hN => ?_) ?_
          rotate_left 1
          · clear hN
            go_simp
            refine givesP_mk ?_
            with_reducible rfl
          refine rg_pure (v := ?_) rfl (by kernel_rfl) (by kernel_rfl) (fun w hS hN => ?_) ?_
          rotate_left 1
          · clear hN
            go_simp
            refine givesP_mk ?_
            with_reducible rfl
          refine rg_pure (v := ?_) rfl (by kernel_rfl) (by kernel_rfl) (fun w hS hN => ?_) ?_
          rotate_left 1
          · clear hN
            go_simp
            refine givesP_mk ?_
            with_reducible rfl
          refine rg_pure (v := .agg (gL x).toArray) rfl (by kernel_rfl) (by kernel_rfl) (fun w hS hN => ?_) ?_
          · clear hN
            exact givesP_loadM 55 _ rfl (ba) (oa + k * 5) (by go_simp) (gL x) _ rfl _ (HRA.out w hS) Try.underlying55 rfl (by kernel_rfl)
          refine rg_pure (v := ?_) rfl (by kernel_rfl) (by kernel_rfl) (fun w hS hN => ?_) ?_
          rotate_left 1
          · clear hN
            go_simp
            refine givesP_mk ?_
            with_reducible rfl
          refine rg_pure (v := ?_) rfl (by kernel_rfl) (by kernel_rfl) (fun w hS hN => ?_) ?_
          rotate_left 1
          · clear hN
            go_simp
            refine givesP_mk ?_
            with_reducible rfl
          refine rg_pure (v := ?_) rfl (by kernel_rfl) (by kernel_rfl) (fun w hS hN => ?_) ?_
          rotate_left 1
          · clear hN
            go_simp
            refine givesP_mk ?_
            with_reducible rfl
          refine rg_pure (v := .agg (gL y).toArray) rfl (by kernel_rfl) (by kernel_rfl) (fun w hS hN => ?_) ?_
          · clear hN
            exact givesP_loadM 55 _ rfl (bb) (ob + k * 5) (by go_simp) (gL y) _ rfl _ (HRB.out w hS) Try.underlying55 rfl (by kernel_rfl)
          refine rg_pure (v := ?_) rfl (by kernel_rfl) (by kernel_rfl) (fun w hS hN => ?_) ?_
          rotate_left 1
          · clear hN
            go_simp
            refine givesP_mk ?_
            with_reducible rfl
          refine rg_done rfl (Nat.le_of_ble_eq_true (by kernel_rfl)) ?_
          intro w8 hS hT
          have HX8 := Lib.hid (HX.out.trans hS)
          clear hT hS hq i1 i2
          go_simp
          go_wp2
          go_roundw
          case rel => exact ⟨k + 1, by omega, by go_num, HN2.out, HX8.out⟩
          case measure => simp [intOf]; omega
        · have hq : ∀ w, (Op.equalIn 10000 55 (.agg (gL x).toArray) (.agg (gL y).toArray)).run Try.prog w = .ok false w := fun w => eqG_run x y false (by simp [hxy]) w
          have HN2 := Lib.hid (HN.out hxy)
          clear hxy
          refine region_rgx ([]) (wr) (by kernel_rfl) (by kernel_rfl) ?_ ?_ ?_
          · exact List.forall_mem_nil _
          · first | assumption | exact Ext.refl _
          refine rg_pure (v := ?_) rfl (by kernel_rfl) (by kernel_rfl) (fun w hS hN => ?_) ?_
          rotate_left 1
          · clear hN
            go_simp
            refine givesP_mk ?_
            with_reducible rfl
          refine rg_pure (v := ?_) rfl (by kernel_rfl) (by kernel_rfl) (fun w hS hN => ?_) ?_
          rotate_left 1
          · clear hN
            go_simp
            refine givesP_mk ?_
            with_reducible rfl
          refine rg_pure (v := ?_) rfl (by kernel_rfl) (by kernel_rfl) (fun w hS hN => ?_) ?_
          rotate_left 1
          · clear hN
            go_simp
            refine givesP_mk ?_
            with_reducible rfl
          refine rg_pure (v := .agg (gL x).toArray) rfl (by kernel_rfl) (by kernel_rfl) (fun w hS hN => ?_) ?_
          · clear hN
            exact givesP_loadM 55 _ rfl (ba) (oa + k * 5) (by go_simp) (gL x) _ rfl _ (HRA.out w hS) Try.underlying55 rfl (by kernel_rfl)
          refine rg_pure (v := ?_) rfl (by kernel_rfl) (by kernel_rfl) (fun w hS hN => ?_) ?_
          rotate_left 1
          · clear hN
            go_simp
            refine givesP_mk ?_
            with_reducible rfl
          refine rg_pure (v := ?_) rfl (by kernel_rfl) (by kernel_rfl) (fun w hS hN => ?_) ?_
          rotate_left 1
          · clear hN
            go_simp
            refine givesP_mk ?_
            with_reducible rfl
          refine rg_pure (v := ?_) rfl (by kernel_rfl) (by kernel_rfl) (fun w hS hN => ?_) ?_
          rotate_left 1
          · clear hN
            go_simp
            refine givesP_mk ?_
            with_reducible rfl
          refine rg_pure (v := .agg (gL y).toArray) rfl (by kernel_rfl) (by kernel_rfl) (fun w hS hN => ?_) ?_
          · clear hN
            exact givesP_loadM 55 _ rfl (bb) (ob + k * 5) (by go_simp) (gL y) _ rfl _ (HRB.out w hS) Try.underlying55 rfl (by kernel_rfl)
          refine rg_pure (v := ?_) rfl (by kernel_rfl) (by kernel_rfl) (fun w hS hN => ?_) ?_
          rotate_left 1
          · clear hN
            go_simp
            refine givesP_mk ?_
            with_reducible rfl
          refine rg_done rfl (Nat.le_of_ble_eq_true (by kernel_rfl)) ?_
          intro w8 hS hT
          have HX8 := Lib.hid (HX.out.trans hS)
          clear hT hS hq
          go_simp
          go_wp2
          go_ret
          exact ⟨by rw [HN2.out] <;> rfl, HX8.out⟩
      · obtain rfl : k = a.length := by omega
        have HY : Hid (r = true) := Lib.hid (HR.out.2 (eq_of_take HL.out HEQ.out))
        go_wp2
        go_ret
        exact ⟨by rw [HY.out] <;> rfl, HX.out⟩
  · have hl' : ((a.length : Int) != (b.length : Int)) = true := by simp; omega
    have HN : Hid (r = false) := Lib.hid (by
      cases r with
      | false => rfl
      | true => exact absurd (congrArg List.length (HR.out.1 rfl)) hl)
    clear hl
    go_enter Try.func64, Try.ntmps64
    go_wp2
    go_ret
    exact ⟨by rw [HN.out] <;> rfl, Ext.refl _⟩
theorem St.same_iff (s t : St) : s = t ↔ s.prog = t.prog ∧ s.gs = t.gs ∧ s.ps = t.ps ∧ s.ms = t.ms ∧ s.glob = t.glob ∧ s.cnts = t.cnts ∧ s.wts = t.wts ∧ s.timers = t.timers ∧ s.clock = t.clock ∧ s.procs = t.procs := by
  constructor
  · rintro rfl; exact ⟨rfl, rfl, rfl, rfl, rfl, rfl, rfl, rfl, rfl, rfl⟩
  · obtain ⟨a1, a2, a3, a4, a5, a6, a7, a8, a9, a10, a11, a12, a13, a14, a15, a16⟩ := s
    obtain ⟨b1, b2, b3, b4, b5, b6, b7, b8, b9, b10, b11, b12, b13, b14, b15, b16⟩ := t
    simp only [St.cnts, St.wts]
    rintro ⟨rfl, rfl, rfl, rfl, rfl, h1, h2, rfl, rfl, rfl⟩
    simp only [List.cons.injEq, and_true] at h1 h2
    obtain ⟨rfl, rfl, rfl, rfl⟩ := h1
    obtain ⟨rfl, rfl, rfl, rfl⟩ := h2
    rfl
theorem ps_range {w : World} {A : Option Addr} {n c : Nat} {l : List Pr} (h : RowsAt 13 pL w (.slice A n c) l) (hb : ∀ p ∈ l, p.ring.buf.length = 8) {k : Nat} {p : Pr} (hk : l[k]? = some p) :
    ∃ b o, A = some ⟨b, o, none⟩ ∧ b < w.heap.size ∧ w.rangeAt b (o + k * 13) (pL13 p) := by
  have := h.range hk
  rwa [pL13_eq (hb p (List.mem_of_getElem? hk))] at this
set_option maxRecDepth 100000 in
set_option maxHeartbeats 8000000 in
theorem rps_any (h h' : StH) (s s' : St) (r : Bool) (hr : r = true ↔ s.ps = s'.ps ∧ s.ms = s'.ms) (w : World) (hk : StOk w h s) (hk' : StOk w h' s') (hf : StFew s) : Calls Try.prog 65 #[stV h s, stV h' s'] w fun e w' => e = .returned (.bool r) ∧ Ext w w' := by
  have f1 := hf.ps
  have f2 := hf.ms
  have HR := Lib.hid hr
  clear hf hr
  have HK := Lib.hid hk
  obtain ⟨w2, hw2⟩ : ∃ w2, (w.alloc (.cells #[.slice h.pa s.prog.length h.pc, .slice h.ga s.gs.length h.gc, .slice h.qa s.ps.length h.qc, .slice h.ma s.ms.length h.mc, .slice h.la s.glob.length h.lc, .int .i64 s.c0, .int .i64 s.c1, .int .i64 s.c2, .int .i64 s.c3, .slice h.a0 s.w0.length h.k0, .slice h.a1 s.w1.length h.k1, .slice h.a2 s.w2.length h.k2, .slice h.a3 s.w3.length h.k3, .slice h.ta s.timers.length h.tc, .int .i64 s.clock, .int .i64 s.procs] 32)).alloc (.cells #[.slice h'.pa s'.prog.length h'.pc, .slice h'.ga s'.gs.length h'.gc, .slice h'.qa s'.ps.length h'.qc, .slice h'.ma s'.ms.length h'.mc, .slice h'.la s'.glob.length h'.lc, .int .i64 s'.c0, .int .i64 s'.c1, .int .i64 s'.c2, .int .i64 s'.c3, .slice h'.a0 s'.w0.length h'.k0, .slice h'.a1 s'.w1.length h'.k1, .slice h'.a2 s'.w2.length h'.k2, .slice h'.a3 s'.w3.length h'.k3, .slice h'.ta s'.timers.length h'.tc, .int .i64 s'.clock, .int .i64 s'.procs] 32) = w2 := ⟨_, rfl⟩
  obtain ⟨B, hB⟩ : ∃ B, w.heap.size + 1 = B := ⟨_, rfl⟩
  have hx2 : Ext w w2 := by rw [← hw2]; exact ((Ext.refl w).alloc _).alloc _
  have HBA : Hid (w2.heap[w.heap.size]? = some (.cells (stC h s) 32 (0, 0))) := Lib.hid (by rw [← hw2]; exact blk_alloc (blk_new w _) _)
  have HBB : Hid (w2.heap[B]? = some (.cells (stC h' s') 32 (0, 0))) := Lib.hid (by
    have := blk_new (w.alloc (.cells #[.slice h.pa s.prog.length h.pc, .slice h.ga s.gs.length h.gc, .slice h.qa s.ps.length h.qc, .slice h.ma s.ms.length h.mc, .slice h.la s.glob.length h.lc, .int .i64 s.c0, .int .i64 s.c1, .int .i64 s.c2, .int .i64 s.c3, .slice h.a0 s.w0.length h.k0, .slice h.a1 s.w1.length h.k1, .slice h.a2 s.w2.length h.k2, .slice h.a3 s.w3.length h.k3, .slice h.ta s.timers.length h.tc, .int .i64 s.clock, .int .i64 s.procs] 32)) (.cells #[.slice h'.pa s'.prog.length h'.pc, .slice h'.ga s'.gs.length h'.gc, .slice h'.qa s'.ps.length h'.qc, .slice h'.ma s'.ms.length h'.mc, .slice h'.la s'.glob.length h'.lc, .int .i64 s'.c0, .int .i64 s'.c1, .int .i64 s'.c2, .int .i64 s'.c3, .slice h'.a0 s'.w0.length h'.k0, .slice h'.a1 s'.w1.length h'.k1, .slice h'.a2 s'.w2.length h'.k2, .slice h'.a3 s'.w3.length h'.k3, .slice h'.ta s'.timers.length h'.tc, .int .i64 s'.clock, .int .i64 s'.procs] 32)
    rw [hw2, World.size_alloc, hB] at this
    exact this)
  have HX2 := Lib.hid hx2
  have HB := Lib.hid hB
  have HKA := Lib.hid (hk.ext hx2)
  have HKB := Lib.hid (hk'.ext hx2)
  have HW2 := Lib.hid hw2
  clear hw2 hx2 hB hk hk'
  have HNO : Hid ((s.ps = s'.ps → ¬ s.ms = s'.ms) → r = false) := Lib.hid fun h => by
    cases r with
    | false => rfl
    | true => exact absurd (HR.out.1 rfl).2 (h (HR.out.1 rfl).1)
  obtain ⟨W0, hW0⟩ : ∃ W0, w.heap.size = W0 := ⟨_, rfl⟩
  rw [hW0] at HBA
  have HW0 := Lib.hid hW0
  clear hW0
  have qa2 := st2 HBA.out
  have qb2 := st2 HBB.out
  have qa3 := st3 HBA.out
  have qb3 := st3 HBB.out
  unfold stV
  go_enter Try.func65, Try.ntmps65
  go_upto_region 1 with fail
  rw [HW2.out, HB.out]
  generalize Value.agg #[.slice h.pa s.prog.length h.pc, .slice h.ga s.gs.length h.gc, .slice h.qa s.ps.length h.qc, .slice h.ma s.ms.length h.mc, .slice h.la s.glob.length h.lc, .int .i64 s.c0, .int .i64 s.c1, .int .i64 s.c2, .int .i64 s.c3, .slice h.a0 s.w0.length h.k0, .slice h.a1 s.w1.length h.k1, .slice h.a2 s.w2.length h.k2, .slice h.a3 s.w3.length h.k3, .slice h.ta s.timers.length h.tc, .int .i64 s.clock, .int .i64 s.procs] = sv0
  generalize Value.agg #[.slice h'.pa s'.prog.length h'.pc, .slice h'.ga s'.gs.length h'.gc, .slice h'.qa s'.ps.length h'.qc, .slice h'.ma s'.ms.length h'.mc, .slice h'.la s'.glob.length h'.lc, .int .i64 s'.c0, .int .i64 s'.c1, .int .i64 s'.c2, .int .i64 s'.c3, .slice h'.a0 s'.w0.length h'.k0, .slice h'.a1 s'.w1.length h'.k1, .slice h'.a2 s'.w2.length h'.k2, .slice h'.a3 s'.w3.length h'.k3, .slice h'.ta s'.timers.length h'.tc, .int .i64 s'.clock, .int .i64 s'.procs] = sv1
  rw [HW0.out]
  by_cases hl : s.ps.length = s'.ps.length
  rotate_left 1
  · have hl' : ((s.ps.length : Int) != (s'.ps.length : Int)) = true := by simp; omega
    have HN : Hid (r = false) := Lib.hid (HNO.out fun h => absurd (congrArg List.length h) hl)
    clear hl
    go_wp2
    go_ret
    exact ⟨by rw [HN.out] <;> rfl, HX2.out⟩
  have HL1 := Lib.hid hl
  have hl' : ((s.ps.length : Int) != (s'.ps.length : Int)) = false := by simp; omega
  clear hl
  by_cases hl2 : s.ms.length = s'.ms.length
  rotate_left 1
  · have hl2' : ((s.ms.length : Int) != (s'.ms.length : Int)) = true := by simp; omega
    have HN : Hid (r = false) := Lib.hid (HNO.out fun _ h => absurd (congrArg List.length h) hl2)
    clear hl2
    go_wp2
    go_ret
    exact ⟨by rw [HN.out] <;> rfl, HX2.out⟩
  have HL2 := Lib.hid hl2
  have hl2' : ((s.ms.length : Int) != (s'.ms.length : Int)) = false := by simp; omega
  clear hl2
  go_wp2_with fail
  clear qa2 qb2 qa3 qb3 hl' hl2'
  go_loopw [5] (fun iv wr => ∃ k : Nat, k ≤ s.ps.length ∧ iv = .int .i64 k ∧ s.ps.take k = s'.ps.take k ∧ Ext w2 wr) (fun iv _ => s.ps.length - (intOf iv).toNat)
  case atStart => exact ⟨0, by omega, rfl, rfl, Ext.refl _⟩
  case round =>
    skip
    obtain ⟨k, hk, rfl, heq, hx⟩ := hrel
    have HX := Lib.hid hx
    have HEQ := Lib.hid heq
    clear hx heq
    have qa2 : wr.cell? ⟨W0, 2, none⟩ = some (.slice h.qa s.ps.length h.qc) := st2 (HX.out.blk HBA.out)
    by_cases hlt : k < s.ps.length
    · obtain ⟨x, hxa⟩ : ∃ x, s.ps[k]? = some x := ⟨_, List.getElem?_eq_getElem hlt⟩
      obtain ⟨y, hyb⟩ : ∃ y, s'.ps[k]? = some y := ⟨_, List.getElem?_eq_getElem (by have := HL1.out; omega)⟩
      obtain ⟨ba, oa, haa, hba, hra⟩ := ps_range HKA.out.ps HKA.out.buf hxa
      obtain ⟨bb, ob, hab, hbb, hrb⟩ := ps_range HKB.out.ps HKB.out.buf hyb
      have HAA := Lib.hid haa
      have HAB := Lib.hid hab
      have HRA : Hid (∀ v, Ext wr v → v.rangeAt ba (oa + k * 13) (pL13 x)) := Lib.hid fun v hv => range_ext hra hba (HX.out.trans hv)
      have HRB : Hid (∀ v, Ext wr v → v.rangeAt bb (ob + k * 13) (pL13 y)) := Lib.hid fun v hv => range_ext hrb hbb (HX.out.trans hv)
      have i0 : (0 : Int) ≤ (k : Int) := by omega
      have i1 : (k : Int) < (s.ps.length : Int) := by omega
      have i2 : (k : Int) < (s'.ps.length : Int) := by have := HL1.out; omega
      have HN : Hid (x ≠ y → r = false) := Lib.hid fun h => HNO.out fun h1 => absurd h1 (ne_of_get hxa hyb h)
      have HY : Hid (x = y → s.ps.take (k + 1) = s'.ps.take (k + 1)) := Lib.hid fun h => take_eq_next HEQ.out hxa (by rw [h]; exact hyb)
      have HU : Hid (x.ring.buf.length = 8 ∧ y.ring.buf.length = 8) := Lib.hid ⟨HKA.out.buf _ (List.mem_of_getElem? hxa), HKB.out.buf _ (List.mem_of_getElem? hyb)⟩
      clear hba hra hbb hrb hxa hyb haa hab
      go_wp2
      clear qa2
      by_cases hxy : x = y
      · have hq : ∀ w, (Op.equalIn 10000 40 (.agg (pL13 x).toArray) (.agg (pL13 y).toArray)).run Try.prog w = .ok true w := fun w => eqP_run x y HU.out.1 HU.out.2 true (by simp [hxy]) w
        have HN2 := Lib.hid (HY.out hxy)
        clear hxy
        refine region_rgx ([]) (wr) (by kernel_rfl) (by kernel_rfl) ?_ ?_ ?_
        · exact List.forall_mem_nil _
        · first | assumption | exact Ext.refl _
        refine rg_pure (v := ?_) rfl (by kernel_rfl) (by kernel_rfl) (fun w hS hN => ?_) ?_
        rotate_left 1
        · clear hN
          go_simp
          refine givesP_mk ?_
          with_reducible rfl
        refine rg_pure (v := ?_) rfl (by kernel_rfl) (by kernel_rfl) (fun w hS hN => ?_) ?_
        rotate_left 1
        · have k1 : w.cell? ⟨W0, 2, none⟩ = some (.slice (some ⟨ba, oa, none⟩) s.ps.length h.qc) := (by rw [← HAA.out]; exact st2 ((HX.out.trans hS).blk HBA.out))
          clear hN
          go_simp
          refine givesP_mk ?_
          with_reducible rfl
        refine rg_pure (v := ?_) rfl (by kernel_rfl) (by kernel_rfl) (fun w hS hN => ?_) ?_
        rotate_left 1
        · clear hN
          go_simp
          refine givesP_mk ?_
          with_reducible rfl
        refine rg_pure (v := ?_) rfl (by kernel_rfl) (by kernel_rfl) (fun w hS hN => ?_) ?_
        rotate_left 1
        · clear hN
          go_simp
          refine givesP_mk ?_
          with_reducible rfl
        refine rg_pure (v := .agg (pL13 x).toArray) rfl (by kernel_rfl) (by kernel_rfl) (fun w hS hN => ?_) ?_
        · clear hN
          exact givesP_loadM 40 _ rfl (ba) (oa + k * 13) (by go_simp) (pL13 x) _ rfl _ (HRA.out w hS) Try.underlying40 rfl (by kernel_rfl)
        refine rg_pure (v := ?_) rfl (by kernel_rfl) (by kernel_rfl) (fun w hS hN => ?_) ?_
        rotate_left 1
        · clear hN
          go_simp
          refine givesP_mk ?_
          with_reducible rfl
        refine rg_pure (v := ?_) rfl (by kernel_rfl) (by kernel_rfl) (fun w hS hN => ?_) ?_
        rotate_left 1
        · have k2 : w.cell? ⟨B, 2, none⟩ = some (.slice (some ⟨bb, ob, none⟩) s'.ps.length h'.qc) := (by rw [← HAB.out]; exact st2 ((HX.out.trans hS).blk HBB.out))
          clear hN
          go_simp
          refine givesP_mk ?_
          with_reducible rfl
        refine rg_pure (v := ?_) rfl (by kernel_rfl) (by kernel_rfl) (fun w hS hN => ?_) ?_
        rotate_left 1
        · clear hN
          go_simp
          refine givesP_mk ?_
          with_reducible rfl
        refine rg_pure (v := ?_) rfl (by kernel_rfl) (by kernel_rfl) (fun w hS hN => ?_) ?_
        rotate_left 1
        · clear hN
          go_simp
          refine givesP_mk ?_
          with_reducible rfl
        refine rg_pure (v := .agg (pL13 y).toArray) rfl (by kernel_rfl) (by kernel_rfl) (fun w hS hN => ?_) ?_
        · clear hN
          exact givesP_loadM 40 _ rfl (bb) (ob + k * 13) (by go_simp) (pL13 y) _ rfl _ (HRB.out w hS) Try.underlying40 rfl (by kernel_rfl)
        refine rg_pure (v := ?_) rfl (by kernel_rfl) (by kernel_rfl) (fun w hS hN => ?_) ?_
        rotate_left 1
        · clear hN
          go_simp
          refine givesP_mk ?_
          with_reducible rfl
        refine rg_done rfl (Nat.le_of_ble_eq_true (by kernel_rfl)) ?_
        intro w8 hS hT
        have HX8 := Lib.hid (HX.out.trans hS)
        clear hT hS hq i1 i2
        go_simp
        go_wp2
        go_roundw
        case rel => exact ⟨k + 1, by omega, by go_num, HN2.out, HX8.out⟩
        case measure => simp [intOf]; omega
      · have hq : ∀ w, (Op.equalIn 10000 40 (.agg (pL13 x).toArray) (.agg (pL13 y).toArray)).run Try.prog w = .ok false w := fun w => eqP_run x y HU.out.1 HU.out.2 false (by simp [hxy]) w
        have HN2 := Lib.hid (HN.out hxy)
        clear hxy
        refine region_rgx ([]) (wr) (by kernel_rfl) (by kernel_rfl) ?_ ?_ ?_
        · exact List.forall_mem_nil _
        · first | assumption | exact Ext.refl _
        refine rg_pure (v := ?_) rfl (by kernel_rfl) (by kernel_rfl) (fun w hS hN => ?_) ?_
        rotate_left 1
        · clear hN
          go_simp
          refine givesP_mk ?_
          with_reducible rfl
        refine rg_pure (v := ?_) rfl (by kernel_rfl) (by kernel_rfl) (fun w hS hN => ?_) ?_
        rotate_left 1
        · have k1 : w.cell? ⟨W0, 2, none⟩ = some (.slice (some ⟨ba, oa, none⟩) s.ps.length h.qc) := (by rw [← HAA.out]; exact st2 ((HX.out.trans hS).blk HBA.out))
          clear hN
          go_simp
          refine givesP_mk ?_
          with_reducible rfl
        refine rg_pure (v := ?_) rfl (by kernel_rfl) (by kernel_rfl) (fun w hS hN => ?_) ?_
        rotate_left 1
        · clear hN
          go_simp
          refine givesP_mk ?_
          with_reducible rfl
        refine rg_pure (v := ?_) rfl (by kernel_rfl) (by kernel_rfl) (fun w hS hN => ?_) ?_
        rotate_left 1
        · clear hN
          go_simp
          refine givesP_mk ?_
          with_reducible rfl
        refine rg_pure (v := .agg (pL13 x).toArray) rfl (by kernel_rfl) (by kernel_rfl) (fun w hS hN => ?_) ?_
        · clear hN
          exact givesP_loadM 40 _ rfl (ba) (oa + k * 13) (by go_simp) (pL13 x) _ rfl _ (HRA.out w hS) Try.underlying40 rfl (by kernel_rfl)
        refine rg_pure (v := ?_) rfl (by kernel_rfl) (by kernel_rfl) (fun w hS hN => ?_) ?_
        rotate_left 1
        · clear hN
          go_simp
          refine givesP_mk ?_
          with_reducible rfl
        refine rg_pure (v := ?_) rfl (by kernel_rfl) (by kernel_rfl) (fun w hS hN => ?_) ?_
        rotate_left 1
        · have k2 : w.cell? ⟨B, 2, none⟩ = some (.slice (some ⟨bb, ob, none⟩) s'.ps.length h'.qc) := (by rw [← HAB.out]; exact st2 ((HX.out.trans hS).blk HBB.out))
          clear hN
          go_simp
          refine givesP_mk ?_
          with_reducible rfl
        refine rg_pure (v := ?_) rfl (by kernel_rfl) (by kernel_rfl) (fun w hS hN => ?_) ?_
        rotate_left 1
        · clear hN
          go_simp
          refine givesP_mk ?_
          with_reducible rfl
        refine rg_pure (v := ?_) rfl (by kernel_rfl) (by kernel_rfl) (fun w hS hN => ?_) ?_
        rotate_left 1
        · clear hN
          go_simp
          refine givesP_mk ?_
          with_reducible rfl
        refine rg_pure (v := .agg (pL13 y).toArray) rfl (by kernel_rfl) (by kernel_rfl) (fun w hS hN => ?_) ?_
        · clear hN
          exact givesP_loadM 40 _ rfl (bb) (ob + k * 13) (by go_simp) (pL13 y) _ rfl _ (HRB.out w hS) Try.underlying40 rfl (by kernel_rfl)
        refine rg_pure (v := ?_) rfl (by kernel_rfl) (by kernel_rfl) (fun w hS hN => ?_) ?_
        rotate_left 1
        · clear hN
          go_simp
          refine givesP_mk ?_
          with_reducible rfl
        refine rg_done rfl (Nat.le_of_ble_eq_true (by kernel_rfl)) ?_
        intro w8 hS hT
        have HX8 := Lib.hid (HX.out.trans hS)
        clear hT hS hq
        go_simp
        go_wp2
        go_ret
        exact ⟨by rw [HN2.out] <;> rfl, HX2.out.trans HX8.out⟩
    · obtain rfl : k = s.ps.length := by omega
      have HPE : Hid (s.ps = s'.ps) := Lib.hid (eq_of_take HL1.out HEQ.out)
      obtain ⟨wo, rfl⟩ : ∃ wo, wo = wr := ⟨_, rfl⟩
      go_wp2_with fail
      clear qa2
      go_loopw [6] (fun iv wr => ∃ k : Nat, k ≤ s.ms.length ∧ iv = .int .i64 k ∧ s.ms.take k = s'.ms.take k ∧ Ext w2 wr) (fun iv _ => s.ms.length - (intOf iv).toNat)
      case atStart => exact ⟨0, by omega, rfl, rfl, HX.out⟩
      case round =>
        clear HX
        obtain ⟨k, hk, rfl, heq, hx⟩ := hrel
        have HX := Lib.hid hx
        have HEQ := Lib.hid heq
        clear hx heq
        have qa2 : wr.cell? ⟨W0, 3, none⟩ = some (.slice h.ma s.ms.length h.mc) := st3 (HX.out.blk HBA.out)
        by_cases hlt : k < s.ms.length
        · obtain ⟨x, hxa⟩ : ∃ x, s.ms[k]? = some x := ⟨_, List.getElem?_eq_getElem hlt⟩
          obtain ⟨y, hyb⟩ : ∃ y, s'.ms[k]? = some y := ⟨_, List.getElem?_eq_getElem (by have := HL2.out; omega)⟩
          obtain ⟨ba, oa, haa, hba, hra⟩ := HKA.out.ms.range hxa
          obtain ⟨bb, ob, hab, hbb, hrb⟩ := HKB.out.ms.range hyb
          have HAA := Lib.hid haa
          have HAB := Lib.hid hab
          have HRA : Hid (∀ v, Ext wr v → v.rangeAt ba (oa + k * 2) (pairL x)) := Lib.hid fun v hv => range_ext hra hba (HX.out.trans hv)
          have HRB : Hid (∀ v, Ext wr v → v.rangeAt bb (ob + k * 2) (pairL y)) := Lib.hid fun v hv => range_ext hrb hbb (HX.out.trans hv)
          have i0 : (0 : Int) ≤ (k : Int) := by omega
          have i1 : (k : Int) < (s.ms.length : Int) := by omega
          have i2 : (k : Int) < (s'.ms.length : Int) := by have := HL2.out; omega
          have HN : Hid (x ≠ y → r = false) := Lib.hid fun h => HNO.out fun _ => ne_of_get hxa hyb h
          have HY : Hid (x = y → s.ms.take (k + 1) = s'.ms.take (k + 1)) := Lib.hid fun h => take_eq_next HEQ.out hxa (by rw [h]; exact hyb)
          skip
          clear hba hra hbb hrb hxa hyb haa hab
          go_wp2
          clear qa2
          by_cases hxy : x = y
          · have hq : ∀ w, (Op.equalIn 10000 57 (.agg (pairL x).toArray) (.agg (pairL y).toArray)).run Try.prog w = .ok true w := fun w => eqM_run x y true (by simp [hxy]) w
            have HN2 := Lib.hid (HY.out hxy)
            clear hxy
            refine region_rgx ([]) (wr) (by kernel_rfl) (by kernel_rfl) ?_ ?_ ?_
            · exact List.forall_mem_nil _
            · first | assumption | exact Ext.refl _
            refine rg_pure (v := ?_) rfl (by kernel_rfl) (by kernel_rfl) (fun w hS hN => ?_) ?_
            rotate_left 1
            · clear hN
              go_simp
              refine givesP_mk ?_
              with_reducible rfl
            refine rg_pure (v := ?_) rfl (by kernel_rfl) (by kernel_rfl) (fun w hS hN => ?_) ?_
            rotate_left 1
            · have k1 : w.cell? ⟨W0, 3, none⟩ = some (.slice (some ⟨ba, oa, none⟩) s.ms.length h.mc) := (by rw [← HAA.out]; exact st3 ((HX.out.trans hS).blk HBA.out))
              clear hN
              go_simp
              refine givesP_mk ?_
              with_reducible rfl
            refine rg_pure (v := ?_) rfl (by kernel_rfl) (by kernel_rfl) (fun w hS hN => ?_) ?_
            rotate_left 1
            · clear hN
              go_simp
              refine givesP_mk ?_
              with_reducible rfl
            refine rg_pure (v := ?_) rfl (by kernel_rfl) (by kernel_rfl) (fun w hS hN => ?_) ?_
            rotate_left 1
            · clear hN
              go_simp
              refine givesP_mk ?_
              with_reducible rfl
            refine rg_pure (v := .agg (pairL x).toArray) rfl (by kernel_rfl) (by kernel_rfl) (fun w hS hN => ?_) ?_
            · clear hN
              exact givesP_loadM 57 _ rfl (ba) (oa + k * 2) (by go_simp) (pairL x) _ rfl _ (HRA.out w hS) Try.underlying57 rfl (by kernel_rfl)
            refine rg_pure (v := ?_) rfl (by kernel_rfl) (by kernel_rfl) (fun w hS hN => ?_) ?_
            rotate_left 1
            · clear hN
              go_simp
              refine givesP_mk ?_
              with_reducible rfl
            refine rg_pure (v := ?_) rfl (by kernel_rfl) (by kernel_rfl) (fun w hS hN => ?_) ?_
            rotate_left 1
            · have k2 : w.cell? ⟨B, 3, none⟩ = some (.slice (some ⟨bb, ob, none⟩) s'.ms.length h'.mc) := (by rw [← HAB.out]; exact st3 ((HX.out.trans hS).blk HBB.out))
              clear hN
              go_simp
              refine givesP_mk ?_
              with_reducible rfl
            refine rg_pure (v := ?_) rfl (by kernel_rfl) (by kernel_rfl) (fun w hS hN => ?_) ?_
            rotate_left 1
            · clear hN
              go_simp
              refine givesP_mk ?_
              with_reducible rfl
            refine rg_pure (v := ?_) rfl (by kernel_rfl) (by kernel_rfl) (fun w hS hN => ?_) ?_
            rotate_left 1
            · clear hN
              go_simp
              refine givesP_mk ?_
              with_reducible rfl
            refine rg_pure (v := .agg (pairL y).toArray) rfl (by kernel_rfl) (by kernel_rfl) (fun w hS hN => ?_) ?_
            · clear hN
              exact givesP_loadM 57 _ rfl (bb) (ob + k * 2) (by go_simp) (pairL y) _ rfl _ (HRB.out w hS) Try.underlying57 rfl (by kernel_rfl)
            refine rg_pure (v := ?_) rfl (by kernel_rfl) (by kernel_rfl) (fun w hS hN => ?_) ?_
            rotate_left 1
            · clear hN
              go_simp
              refine givesP_mk ?_
              with_reducible rfl
            refine rg_done rfl (Nat.le_of_ble_eq_true (by kernel_rfl)) ?_
            intro w8 hS hT
            have HX8 := Lib.hid (HX.out.trans hS)
            clear hT hS hq i1 i2
            go_simp
            go_wp2
            go_roundw
            case rel => exact ⟨k + 1, by omega, by go_num, HN2.out, HX8.out⟩
            case measure => simp [intOf]; omega
          · have hq : ∀ w, (Op.equalIn 10000 57 (.agg (pairL x).toArray) (.agg (pairL y).toArray)).run Try.prog w = .ok false w := fun w => eqM_run x y false (by simp [hxy]) w
            have HN2 := Lib.hid (HN.out hxy)
            clear hxy
            refine region_rgx ([]) (wr) (by kernel_rfl) (by kernel_rfl) ?_ ?_ ?_
            · exact List.forall_mem_nil _
            · first | assumption | exact Ext.refl _
            refine rg_pure (v := ?_) rfl (by kernel_rfl) (by kernel_rfl) (fun w hS hN => ?_) ?_
            rotate_left 1
            · clear hN
              go_simp
              refine givesP_mk ?_
              with_reducible rfl
            refine rg_pure (v := ?_) rfl (by kernel_rfl) (by kernel_rfl) (fun w hS hN => ?_) ?_
            rotate_left 1
            · have k1 : w.cell? ⟨W0, 3, none⟩ = some (.slice (some ⟨ba, oa, none⟩) s.ms.length h.mc) := (by rw [← HAA.out]; exact st3 ((HX.out.trans hS).blk HBA.out))
              clear hN
              go_simp
              refine givesP_mk ?_
              with_reducible rfl
            refine rg_pure (v := ?_) rfl (by kernel_rfl) (by kernel_rfl) (fun w hS hN => ?_) ?_
            rotate_left 1
            · clear hN
              go_simp
              refine givesP_mk ?_
              with_reducible rfl
            refine rg_pure (v := ?_) rfl (by kernel_rfl) (by kernel_rfl) (fun w hS hN => ?_) ?_
            rotate_left 1
            · clear hN
              go_simp
              refine givesP_mk ?_
              with_reducible rfl
            refine rg_pure (v := .agg (pairL x).toArray) rfl (by kernel_rfl) (by kernel_rfl) (fun w hS hN => ?_) ?_
            · clear hN
              exact givesP_loadM 57 _ rfl (ba) (oa + k * 2) (by go_simp) (pairL x) _ rfl _ (HRA.out w hS) Try.underlying57 rfl (by kernel_rfl)
            refine rg_pure (v := ?_) rfl (by kernel_rfl) (by kernel_rfl) (fun w hS hN => ?_) ?_
            rotate_left 1
            · clear hN
              go_simp
              refine givesP_mk ?_
              with_reducible rfl
            refine rg_pure (v := ?_) rfl (by kernel_rfl) (by kernel_rfl) (fun w hS hN => ?_) ?_
            rotate_left 1
            · have k2 : w.cell? ⟨B, 3, none⟩ = some (.slice (some ⟨bb, ob, none⟩) s'.ms.length h'.mc) := (by rw [← HAB.out]; exact st3 ((HX.out.trans hS).blk HBB.out))
              clear hN
              go_simp
              refine givesP_mk ?_
              with_reducible rfl
            refine rg_pure (v := ?_) rfl (by kernel_rfl) (by kernel_rfl) (fun w hS hN => ?_) ?_
            rotate_left 1
            · clear hN
              go_simp
              refine givesP_mk ?_
              with_reducible rfl
            refine rg_pure (v := ?_) rfl (by kernel_rfl) (by kernel_rfl) (fun w hS hN => ?_) ?_
            rotate_left 1
            · clear hN
              go_simp
              refine givesP_mk ?_
              with_reducible rfl
            refine rg_pure (v := .agg (pairL y).toArray) rfl (by kernel_rfl) (by kernel_rfl) (fun w hS hN => ?_) ?_
            · clear hN
              exact givesP_loadM 57 _ rfl (bb) (ob + k * 2) (by go_simp) (pairL y) _ rfl _ (HRB.out w hS) Try.underlying57 rfl (by kernel_rfl)
            refine rg_pure (v := ?_) rfl (by kernel_rfl) (by kernel_rfl) (fun w hS hN => ?_) ?_
            rotate_left 1
            · clear hN
              go_simp
              refine givesP_mk ?_
              with_reducible rfl
            refine rg_done rfl (Nat.le_of_ble_eq_true (by kernel_rfl)) ?_
            intro w8 hS hT
            have HX8 := Lib.hid (HX.out.trans hS)
            clear hT hS hq
            go_simp
            go_wp2
            go_ret
            exact ⟨by rw [HN2.out] <;> rfl, HX2.out.trans HX8.out⟩
        · obtain rfl : k = s.ms.length := by omega
          have HY : Hid (r = true) := Lib.hid (HR.out.2 ⟨HPE.out, eq_of_take HL2.out HEQ.out⟩)
          go_wp2
          go_ret
          exact ⟨by rw [HY.out] <;> rfl, HX2.out.trans HX.out⟩
set_option maxRecDepth 100000 in
set_option maxHeartbeats 8000000 in
theorem rpsame_any (A A' : Option Addr) (c c' : Nat) (p q : List (List (Int × Int))) (r : Bool) (hr : r = true ↔ p = q) (w : World) (h1 : NestAt 2 pairL w (.slice A p.length c) p) (h2 : NestAt 2 pairL w (.slice A' q.length c') q) (hp : p.length ≤ 1000000) (hpl : ∀ l ∈ p, l.length ≤ 1000000) :
    Calls Try.prog 63 #[.slice A p.length c, .slice A' q.length c'] w fun e w' => e = .returned (.bool r) ∧ Ext w w' := by
  have H1 := Lib.hid h1
  have H2 := Lib.hid h2
  have HPL := Lib.hid hpl
  have HNO : Hid (p ≠ q → r = false) := Lib.hid fun h => by
    cases r with
    | false => rfl
    | true => exact absurd (hr.1 rfl) h
  have HR := Lib.hid hr
  clear h1 h2 hr hpl
  by_cases hl : p.length = q.length
  rotate_left 1
  · have hl' : ((p.length : Int) != (q.length : Int)) = true := by simp; omega
    have HN : Hid (r = false) := Lib.hid (HNO.out fun h => absurd (congrArg List.length h) hl)
    clear hl
    go_enter Try.func63, Try.ntmps63
    go_wp2
    go_ret
    exact ⟨by rw [HN.out] <;> rfl, Ext.refl _⟩
  have HL := Lib.hid hl
  have hl' : ((p.length : Int) != (q.length : Int)) = false := by simp; omega
  clear hl
  go_enter Try.func63, Try.ntmps63
  go_wp2
  clear hl'
  go_loopw [5] (fun iv wr => ∃ k : Nat, k ≤ p.length ∧ iv = .int .i64 k ∧ p.take k = q.take k ∧ Ext w wr) (fun iv _ => p.length - (intOf iv).toNat)
  case atStart => exact ⟨0, by omega, rfl, rfl, Ext.refl _⟩
  case round =>
    obtain ⟨k, hk, rfl, heq, hx⟩ := hrel
    have HX := Lib.hid hx
    have HEQ := Lib.hid heq
    clear hx heq
    by_cases hlt : k < p.length
    · obtain ⟨x, hxa⟩ : ∃ x, p[k]? = some x := ⟨_, List.getElem?_eq_getElem hlt⟩
      obtain ⟨y, hyb⟩ : ∃ y, q[k]? = some y := ⟨_, List.getElem?_eq_getElem (by have := HL.out; omega)⟩
      obtain ⟨b, o, B, d, rfl, hb, hcu, hrow⟩ := H1.out.get hxa
      obtain ⟨b', o', B', d', rfl, hb', hcu', hrow'⟩ := H2.out.get hyb
      have HCA : Hid (∀ v, Ext wr v → v.cell? ⟨b, o + k, none⟩ = some (.slice B x.length d)) := Lib.hid fun v hv => (Below.cell (HX.out.trans hv) hb).trans hcu
      have HCB : Hid (∀ v, Ext wr v → v.cell? ⟨b', o' + k, none⟩ = some (.slice B' y.length d')) := Lib.hid fun v hv => (Below.cell (HX.out.trans hv) hb').trans hcu'
      have HRA := Lib.hid hrow
      have HRB := Lib.hid hrow'
      have HXL := Lib.hid (HPL.out x (List.mem_of_getElem? hxa))
      have i0 : (0 : Int) ≤ (k : Int) := by omega
      have i1 : (k : Int) < (p.length : Int) := by omega
      have i2 : (k : Int) < (q.length : Int) := by have := HL.out; omega
      have HN : Hid (x ≠ y → r = false) := Lib.hid fun h => HNO.out (ne_of_get hxa hyb h)
      have HY : Hid (x = y → p.take (k + 1) = q.take (k + 1)) := Lib.hid fun h => take_eq_next HEQ.out hxa (by rw [h]; exact hyb)
      clear hb hb' hcu hcu' hrow hrow' hxa hyb
      go_wp2
      by_cases hxl : x.length = y.length
      rotate_left 1
      · have hxl' : ((x.length : Int) != (y.length : Int)) = true := by simp; omega
        have HN2 := Lib.hid (HN.out fun h => hxl (congrArg List.length h))
        clear hxl
        refine region_rgx ([]) (wr) (by kernel_rfl) (by kernel_rfl) ?_ ?_ ?_
        · exact List.forall_mem_nil _
        · first | assumption | exact Ext.refl _
        refine rg_pure (v := ?_) rfl (by kernel_rfl) (by kernel_rfl) (fun w hS hN => ?_) ?_
        rotate_left 1
        · clear hN
          go_simp
          try simp only [hxl']
          refine givesP_mk ?_
          with_reducible rfl
        refine rg_pure (v := ?_) rfl (by kernel_rfl) (by kernel_rfl) (fun w hS hN => ?_) ?_
        rotate_left 1
        · clear hN
          go_simp
          try simp only [hxl']
          refine givesP_mk ?_
          with_reducible rfl
        refine rg_pure (v := ?_) rfl (by kernel_rfl) (by kernel_rfl) (fun w hS hN => ?_) ?_
        rotate_left 1
        · clear hN
          go_simp
          try simp only [hxl']
          refine givesP_mk ?_
          with_reducible rfl
        refine rg_pure (v := ?_) rfl (by kernel_rfl) (by kernel_rfl) (fun w hS hN => ?_) ?_
        rotate_left 1
        · have k1 := HCA.out w hS
          clear hN
          go_simp
          try simp only [hxl']
          refine givesP_mk ?_
          with_reducible rfl
        refine rg_pure (v := ?_) rfl (by kernel_rfl) (by kernel_rfl) (fun w hS hN => ?_) ?_
        rotate_left 1
        · clear hN
          go_simp
          try simp only [hxl']
          refine givesP_mk ?_
          with_reducible rfl
        refine rg_pure (v := ?_) rfl (by kernel_rfl) (by kernel_rfl) (fun w hS hN => ?_) ?_
        rotate_left 1
        · clear hN
          go_simp
          try simp only [hxl']
          refine givesP_mk ?_
          with_reducible rfl
        refine rg_pure (v := ?_) rfl (by kernel_rfl) (by kernel_rfl) (fun w hS hN => ?_) ?_
        rotate_left 1
        · clear hN
          go_simp
          try simp only [hxl']
          refine givesP_mk ?_
          with_reducible rfl
        refine rg_pure (v := ?_) rfl (by kernel_rfl) (by kernel_rfl) (fun w hS hN => ?_) ?_
        rotate_left 1
        · clear hN
          go_simp
          try simp only [hxl']
          refine givesP_mk ?_
          with_reducible rfl
        refine rg_pure (v := ?_) rfl (by kernel_rfl) (by kernel_rfl) (fun w hS hN => ?_) ?_
        rotate_left 1
        · have k2 := HCB.out w hS
          clear hN
          go_simp
          try simp only [hxl']
          refine givesP_mk ?_
          with_reducible rfl
        refine rg_pure (v := ?_) rfl (by kernel_rfl) (by kernel_rfl) (fun w hS hN => ?_) ?_
        rotate_left 1
        · clear hN
          go_simp
          try simp only [hxl']
          refine givesP_mk ?_
          with_reducible rfl
        refine rg_pure (v := ?_) rfl (by kernel_rfl) (by kernel_rfl) (fun w hS hN => ?_) ?_
        rotate_left 1
        · clear hN
          go_simp
          try simp only [hxl']
          refine givesP_mk ?_
          with_reducible rfl
        refine rg_done rfl (Nat.le_of_ble_eq_true (by kernel_rfl)) ?_
        intro w8 hS hT
        have HX8 := Lib.hid (HX.out.trans hS)
        clear hT hS
        go_simp
        go_wp2
        go_ret
        exact ⟨by rw [HN2.out] <;> rfl, HX8.out⟩
      have hxl' : ((x.length : Int) != (y.length : Int)) = false := by simp; omega
      have HXY := Lib.hid hxl
      clear hxl
      refine region_rgx ([]) (wr) (by kernel_rfl) (by kernel_rfl) ?_ ?_ ?_
      · exact List.forall_mem_nil _
      · first | assumption | exact Ext.refl _
      refine rg_pure (v := ?_) rfl (by kernel_rfl) (by kernel_rfl) (fun w hS hN => ?_) ?_
      rotate_left 1
      · clear hN
        go_simp
        try simp only [hxl']
        refine givesP_mk ?_
        with_reducible rfl
      refine rg_pure (v := ?_) rfl (by kernel_rfl) (by kernel_rfl) (fun w hS hN => ?_) ?_
      rotate_left 1
      · clear hN
        go_simp
        try simp only [hxl']
        refine givesP_mk ?_
        with_reducible rfl
      refine rg_pure (v := ?_) rfl (by kernel_rfl) (by kernel_rfl) (fun w hS hN => ?_) ?_
      rotate_left 1
      · clear hN
        go_simp
        try simp only [hxl']
        refine givesP_mk ?_
        with_reducible rfl
      refine rg_pure (v := ?_) rfl (by kernel_rfl) (by kernel_rfl) (fun w hS hN => ?_) ?_
      rotate_left 1
      · have k1 := HCA.out w hS
        clear hN
        go_simp
        try simp only [hxl']
        refine givesP_mk ?_
        with_reducible rfl
      refine rg_pure (v := ?_) rfl (by kernel_rfl) (by kernel_rfl) (fun w hS hN => ?_) ?_
      rotate_left 1
      · clear hN
        go_simp
        try simp only [hxl']
        refine givesP_mk ?_
        with_reducible rfl
      refine rg_pure (v := ?_) rfl (by kernel_rfl) (by kernel_rfl) (fun w hS hN => ?_) ?_
      rotate_left 1
      · clear hN
        go_simp
        try simp only [hxl']
        refine givesP_mk ?_
        with_reducible rfl
      refine rg_pure (v := ?_) rfl (by kernel_rfl) (by kernel_rfl) (fun w hS hN => ?_) ?_
      rotate_left 1
      · clear hN
        go_simp
        try simp only [hxl']
        refine givesP_mk ?_
        with_reducible rfl
      refine rg_pure (v := ?_) rfl (by kernel_rfl) (by kernel_rfl) (fun w hS hN => ?_) ?_
      rotate_left 1
      · clear hN
        go_simp
        try simp only [hxl']
        refine givesP_mk ?_
        with_reducible rfl
      refine rg_pure (v := ?_) rfl (by kernel_rfl) (by kernel_rfl) (fun w hS hN => ?_) ?_
      rotate_left 1
      · have k2 := HCB.out w hS
        clear hN
        go_simp
        try simp only [hxl']
        refine givesP_mk ?_
        with_reducible rfl
      refine rg_pure (v := ?_) rfl (by kernel_rfl) (by kernel_rfl) (fun w hS hN => ?_) ?_
      rotate_left 1
      · clear hN
        go_simp
        try simp only [hxl']
        refine givesP_mk ?_
        with_reducible rfl
      refine rg_pure (v := ?_) rfl (by kernel_rfl) (by kernel_rfl) (fun w hS hN => ?_) ?_
      rotate_left 1
      · clear hN
        go_simp
        try simp only [hxl']
        refine givesP_mk ?_
        with_reducible rfl
      refine rg_done rfl (Nat.le_of_ble_eq_true (by kernel_rfl)) ?_
      intro w8 hS hT
      have HS8 := Lib.hid hS
      clear hT hS hxl'
      go_simp
      have HLT := Lib.hid hlt
      clear hlt i0 i1 i2
      go_wp2_with fail
      go_loopw [6] (fun iv wr => ∃ j : Nat, j ≤ x.length ∧ iv = .int .i64 j ∧ x.take j = y.take j ∧ Ext w8 wr) (fun iv _ => x.length - (intOf iv).toNat)
      case atStart => exact ⟨0, by omega, rfl, rfl, Ext.refl _⟩
      case round =>
        rename_i w9
        obtain ⟨j, hj, rfl, hjeq, hjx⟩ := hrel
        have HX9 := Lib.hid (HS8.out.trans hjx)
        have HX89 := Lib.hid hjx
        have HJEQ := Lib.hid hjeq
        clear hjx hjeq
        have i0 : (0 : Int) ≤ (k : Int) := by omega
        have i1 : (k : Int) < (p.length : Int) := by have := HLT.out; omega
        have i2 : (k : Int) < (q.length : Int) := by have := HL.out; omega
        have kk := HCA.out _ HX9.out
        have hxl9 := HXL.out
        by_cases hltj : j < x.length
        · obtain ⟨u, hu⟩ : ∃ u, x[j]? = some u := ⟨_, List.getElem?_eq_getElem hltj⟩
          obtain ⟨v, hv⟩ : ∃ v, y[j]? = some v := ⟨_, List.getElem?_eq_getElem (by have := HXY.out; omega)⟩
          obtain ⟨ba, oa, rfl, hba, hra⟩ := HRA.out.range hu
          obtain ⟨bb, ob, rfl, hbb, hrb⟩ := HRB.out.range hv
          have HMA : Hid (∀ v, Ext wr v → v.rangeAt ba (oa + j * 2) (pairL u)) := Lib.hid fun v hv => range_ext hra hba ((HX.out.trans HX9.out).trans hv)
          have HMB : Hid (∀ w', Ext wr w' → w'.rangeAt bb (ob + j * 2) (pairL v)) := Lib.hid fun w' hw => range_ext hrb hbb ((HX.out.trans HX9.out).trans hw)
          have HN3 : Hid (u ≠ v → r = false) := Lib.hid fun h => HN.out (ne_of_get hu hv h)
          have HY3 : Hid (u = v → x.take (j + 1) = y.take (j + 1)) := Lib.hid fun h => take_eq_next HJEQ.out hu (by rw [h]; exact hv)
          have i3 : (0 : Int) ≤ (j : Int) := by omega
          have i4 : (j : Int) < (x.length : Int) := by omega
          have i5 : (j : Int) < (y.length : Int) := by have := HXY.out; omega
          clear hba hra hbb hrb hu hv
          go_wp2
          clear kk
          by_cases huv : u = v
          · have hq : ∀ w, (Op.equalIn 10000 68 (.agg (pairL u).toArray) (.agg (pairL v).toArray)).run Try.prog w = .ok true w := fun w => eqI_run u v true (by simp [huv]) w
            have HN4 := Lib.hid (HY3.out huv)
            clear huv
            refine region_rgx ([]) (wr) (by kernel_rfl) (by kernel_rfl) ?_ ?_ ?_
            · exact List.forall_mem_nil _
            · first | assumption | exact Ext.refl _
            refine rg_pure (v := ?_) rfl (by kernel_rfl) (by kernel_rfl) (fun w hS hN => ?_) ?_
            rotate_left 1
            · clear hN
              go_simp
              refine givesP_mk ?_
              with_reducible rfl
            refine rg_pure (v := ?_) rfl (by kernel_rfl) (by kernel_rfl) (fun w hS hN => ?_) ?_
            rotate_left 1
            · clear hN
              go_simp
              refine givesP_mk ?_
              with_reducible rfl
            refine rg_pure (v := ?_) rfl (by kernel_rfl) (by kernel_rfl) (fun w hS hN => ?_) ?_
            rotate_left 1
            · clear hN
              go_simp
              refine givesP_mk ?_
              with_reducible rfl
            refine rg_pure (v := ?_) rfl (by kernel_rfl) (by kernel_rfl) (fun w hS hN => ?_) ?_
            rotate_left 1
            · have k1 := HCA.out w (HX9.out.trans hS)
              clear hN
              go_simp
              refine givesP_mk ?_
              with_reducible rfl
            refine rg_pure (v := ?_) rfl (by kernel_rfl) (by kernel_rfl) (fun w hS hN => ?_) ?_
            rotate_left 1
            · clear hN
              go_simp
              refine givesP_mk ?_
              with_reducible rfl
            refine rg_pure (v := ?_) rfl (by kernel_rfl) (by kernel_rfl) (fun w hS hN => ?_) ?_
            rotate_left 1
            · clear hN
              go_simp
              refine givesP_mk ?_
              with_reducible rfl
            refine rg_pure (v := .agg (pairL u).toArray) rfl (by kernel_rfl) (by kernel_rfl) (fun w hS hN => ?_) ?_
            · clear hN
              exact givesP_loadM 68 _ rfl (ba) (oa + j * 2) (by go_simp) (pairL u) _ rfl _ (HMA.out w hS) Try.underlying68 rfl (by kernel_rfl)
            refine rg_pure (v := ?_) rfl (by kernel_rfl) (by kernel_rfl) (fun w hS hN => ?_) ?_
            rotate_left 1
            · clear hN
              go_simp
              refine givesP_mk ?_
              with_reducible rfl
            refine rg_pure (v := ?_) rfl (by kernel_rfl) (by kernel_rfl) (fun w hS hN => ?_) ?_
            rotate_left 1
            · clear hN
              go_simp
              refine givesP_mk ?_
              with_reducible rfl
            refine rg_pure (v := ?_) rfl (by kernel_rfl) (by kernel_rfl) (fun w hS hN => ?_) ?_
            rotate_left 1
            · clear hN
              go_simp
              refine givesP_mk ?_
              with_reducible rfl
            refine rg_pure (v := ?_) rfl (by kernel_rfl) (by kernel_rfl) (fun w hS hN => ?_) ?_
            rotate_left 1
            · have k2 := HCB.out w (HX9.out.trans hS)
              clear hN
              go_simp
              refine givesP_mk ?_
              with_reducible rfl
            refine rg_pure (v := ?_) rfl (by kernel_rfl) (by kernel_rfl) (fun w hS hN => ?_) ?_
            rotate_left 1
            · clear hN
              go_simp
              refine givesP_mk ?_
              with_reducible rfl
            refine rg_pure (v := ?_) rfl (by kernel_rfl) (by kernel_rfl) (fun w hS hN => ?_) ?_
            rotate_left 1
            · clear hN
              go_simp
              refine givesP_mk ?_
              with_reducible rfl
            refine rg_pure (v := .agg (pairL v).toArray) rfl (by kernel_rfl) (by kernel_rfl) (fun w hS hN => ?_) ?_
            · clear hN
              exact givesP_loadM 68 _ rfl (bb) (ob + j * 2) (by go_simp) (pairL v) _ rfl _ (HMB.out w hS) Try.underlying68 rfl (by kernel_rfl)
            refine rg_pure (v := ?_) rfl (by kernel_rfl) (by kernel_rfl) (fun w hS hN => ?_) ?_
            rotate_left 1
            · clear hN
              go_simp
              refine givesP_mk ?_
              with_reducible rfl
            refine rg_done rfl (Nat.le_of_ble_eq_true (by kernel_rfl)) ?_
            intro w10 hS hT
            have HX10 := Lib.hid (HX89.out.trans hS)
            clear hT hS hq i1 i2 i4 i5
            go_simp
            go_wp2
            go_roundw
            case rel => exact ⟨j + 1, by omega, by go_num, HN4.out, HX10.out⟩
            case measure => simp [intOf]; omega
          · have hq : ∀ w, (Op.equalIn 10000 68 (.agg (pairL u).toArray) (.agg (pairL v).toArray)).run Try.prog w = .ok false w := fun w => eqI_run u v false (by simp [huv]) w
            have HN4 := Lib.hid (HN3.out huv)
            clear huv
            refine region_rgx ([]) (wr) (by kernel_rfl) (by kernel_rfl) ?_ ?_ ?_
            · exact List.forall_mem_nil _
            · first | assumption | exact Ext.refl _
            refine rg_pure (v := ?_) rfl (by kernel_rfl) (by kernel_rfl) (fun w hS hN => ?_) ?_
            rotate_left 1
            · clear hN
              go_simp
              refine givesP_mk ?_
              with_reducible rfl
            refine rg_pure (v := ?_) rfl (by kernel_rfl) (by kernel_rfl) (fun w hS hN => ?_) ?_
            rotate_left 1
            · clear hN
              go_simp
              refine givesP_mk ?_
              with_reducible rfl
            refine rg_pure (v := ?_) rfl (by kernel_rfl) (by kernel_rfl) (fun w hS hN => ?_) ?_
            rotate_left 1
            · clear hN
              go_simp
              refine givesP_mk ?_
              with_reducible rfl
            refine rg_pure (v := ?_) rfl (by kernel_rfl) (by kernel_rfl) (fun w hS hN => ?_) ?_
            rotate_left 1
            · have k1 := HCA.out w (HX9.out.trans hS)
              clear hN
              go_simp
              refine givesP_mk ?_
              with_reducible rfl
            refine rg_pure (v := ?_) rfl (by kernel_rfl) (by kernel_rfl) (fun w hS hN => ?_) ?_
            rotate_left 1
            · clear hN
              go_simp
              refine givesP_mk ?_
              with_reducible rfl
            refine rg_pure (v := ?_) rfl (by kernel_rfl) (by kernel_rfl) (fun w hS hN => ?_) ?_
            rotate_left 1
            · clear hN
              go_simp
              refine givesP_mk ?_
              with_reducible rfl
            refine rg_pure (v := .agg (pairL u).toArray) rfl (by kernel_rfl) (by kernel_rfl) (fun w hS hN => ?_) ?_
            · clear hN
              exact givesP_loadM 68 _ rfl (ba) (oa + j * 2) (by go_simp) (pairL u) _ rfl _ (HMA.out w hS) Try.underlying68 rfl (by kernel_rfl)
            refine rg_pure (v := ?_) rfl (by kernel_rfl) (by kernel_rfl) (fun w hS hN => ?_) ?_
            rotate_left 1
            · clear hN
              go_simp
              refine givesP_mk ?_
              with_reducible rfl
            refine rg_pure (v := ?_) rfl (by kernel_rfl) (by kernel_rfl) (fun w hS hN => ?_) ?_
            rotate_left 1
            · clear hN
              go_simp
              refine givesP_mk ?_
              with_reducible rfl
            refine rg_pure (v := ?_) rfl (by kernel_rfl) (by kernel_rfl) (fun w hS hN => ?_) ?_
            rotate_left 1
            · clear hN
              go_simp
              refine givesP_mk ?_
              with_reducible rfl
            refine rg_pure (v := ?_) rfl (by kernel_rfl) (by kernel_rfl) (fun w hS hN => ?_) ?_
            rotate_left 1
            · have k2 := HCB.out w (HX9.out.trans hS)
              clear hN
              go_simp
              refine givesP_mk ?_
              with_reducible rfl
            refine rg_pure (v := ?_) rfl (by kernel_rfl) (by kernel_rfl) (fun w hS hN => ?_) ?_
            rotate_left 1
            · clear hN
              go_simp
              refine givesP_mk ?_
              with_reducible rfl
            refine rg_pure (v := ?_) rfl (by kernel_rfl) (by kernel_rfl) (fun w hS hN => ?_) ?_
            rotate_left 1
            · clear hN
              go_simp
              refine givesP_mk ?_
              with_reducible rfl
            refine rg_pure (v := .agg (pairL v).toArray) rfl (by kernel_rfl) (by kernel_rfl) (fun w hS hN => ?_) ?_
            · clear hN
              exact givesP_loadM 68 _ rfl (bb) (ob + j * 2) (by go_simp) (pairL v) _ rfl _ (HMB.out w hS) Try.underlying68 rfl (by kernel_rfl)
            refine rg_pure (v := ?_) rfl (by kernel_rfl) (by kernel_rfl) (fun w hS hN => ?_) ?_
            rotate_left 1
            · clear hN
              go_simp
              refine givesP_mk ?_
              with_reducible rfl
            refine rg_done rfl (Nat.le_of_ble_eq_true (by kernel_rfl)) ?_
            intro w10 hS hT
            have HX10 := Lib.hid (HX.out.trans (HX9.out.trans hS))
            clear hT hS hq
            go_simp
            go_wp2
            go_ret
            exact ⟨by rw [HN4.out] <;> rfl, HX10.out⟩
        · obtain rfl : j = x.length := by omega
          have HY3 := Lib.hid (HY.out (eq_of_take HXY.out HJEQ.out))
          have HX10 := Lib.hid (HX.out.trans HX9.out)
          have hlt := HLT.out
          clear i1 i2
          go_wp2
          go_roundw
          case rel => exact ⟨k + 1, by omega, by go_num, HY3.out, HX10.out⟩
          case measure => simp [intOf]; omega
    · obtain rfl : k = p.length := by omega
      have HY : Hid (r = true) := Lib.hid (HR.out.2 (eq_of_take HL.out HEQ.out))
      go_wp2
      go_ret
      exact ⟨by rw [HY.out] <;> rfl, HX.out⟩
set_option maxRecDepth 100000 in
set_option maxHeartbeats 4000000 in
theorem rpsmall_any (v : Value) (p : List (List (Int × Int))) (r : Bool) (hr : Pg.small p = r) (w : World) (h1 : NestAt 2 pairL w v p) (hp : p.length ≤ 9223372036854775807) (hpl : ∀ l ∈ p, l.length ≤ 9223372036854775807) :
    Calls Try.prog 42 #[v] w fun e w' => e = .returned (.bool r) ∧ w' = w := by
  subst hr
  have H1 := Lib.hid h1
  have HPL := Lib.hid hpl
  obtain ⟨A, c, rfl⟩ := h1.form2
  clear h1 hpl
  go_enter Try.func42, Try.ntmps42
  go_wp2
  go_loop [3] (fun iv => ∃ k : Nat, k ≤ p.length ∧ iv = .int .i64 k ∧ ∀ (j : Nat) l, p[j]? = some l → j < k → l.length ≤ 30) (fun iv => p.length - (intOf iv).toNat)
  case atStart => exact ⟨0, by omega, rfl, fun j l _ h => by omega⟩
  case round =>
    obtain ⟨k, hk, rfl, hall⟩ := hrel
    have HALL := Lib.hid hall
    clear hall
    by_cases hlt : k < p.length
    · obtain ⟨x, hxa⟩ : ∃ x, p[k]? = some x := ⟨_, List.getElem?_eq_getElem hlt⟩
      obtain ⟨b, o, B, d, rfl, hb, hcu, hrow⟩ := H1.out.get hxa
      have hxl := HPL.out x (List.mem_of_getElem? hxa)
      have HXA := Lib.hid hxa
      clear hb hrow hxa
      by_cases h3 : x.length ≤ 30
      · have h3' : (x.length : Int) ≤ 30 := by omega
        have H3 := Lib.hid h3
        clear h3 hxl
        go_wp2
        go_round
        case rel =>
          refine ⟨k + 1, by omega, by go_num, fun j l hj hjk => ?_⟩
          by_cases hjk2 : j < k
          · exact HALL.out j l hj hjk2
          · obtain rfl : j = k := by omega
            rw [← some_eq HXA.out hj]
            exact H3.out
        case measure => simp [intOf]; omega
      · have h3' : (30 : Int) < (x.length : Int) := by omega
        have HN : Hid (Pg.small p = false) := Lib.hid (by
          unfold Pg.small; rw [all_no HXA.out (by simpa using h3)]; rfl)
        clear h3
        go_wp2
        go_ret
        exact ⟨by rw [HN.out] <;> rfl, rfl⟩
    · obtain rfl : k = p.length := by omega
      have HY : Hid (Pg.small p = decide ((p.length : Int) ≤ 12)) := Lib.hid (by
        unfold Pg.small
        rw [all_yes fun j l hj => by simpa using HALL.out j l hj (List.getElem?_eq_some_iff.1 hj).1, Bool.true_and]
        congr 1
        simp only [eq_iff_iff]
        omega)
      go_wp2
      go_ret
      exact ⟨by rw [HY.out] <;> rfl, rfl⟩
structure StIn (s : St) : Prop where
  prog : s.prog.length ≤ 9223372036854775807 ∧ ∀ l ∈ s.prog, l.length ≤ 9223372036854775807
  gs : s.gs.length ≤ 140737488355328
  ps : s.ps.length ≤ 140737488355328
  ms : s.ms.length ≤ 140737488355328
  glob : s.glob.length ≤ 140737488355328
  w : s.w0.length ≤ 140737488355328 ∧ s.w1.length ≤ 140737488355328 ∧ s.w2.length ≤ 140737488355328 ∧ s.w3.length ≤ 140737488355328
  timers : s.timers.length ≤ 140737488355328
  tnum : ∀ p ∈ s.timers, i64ok p.1 ∧ i64ok p.2
def St.many (s : St) (k : Nat) : Nat := s.glob.length + s.timers.length + ((s.wts.take k).flatten).length
def St.small (s : St) : Bool := s.gs.all (fun g => decide (g.seq ≤ 1000000)) && s.ps.all (fun p => decide (p.seq ≤ 1000000)) && decide (s.clock ≤ 1000000000) && (Pg.small s.prog && decide (s.gs.length ≤ 40) && decide (s.ps.length ≤ 10) && decide (s.ms.length ≤ 40) && decide (s.many 4 ≤ 80))
theorem St.small_few {s : St} (h : s.small = true) (hi : StIn s) : StFew s := by
  unfold St.small at h
  simp only [Bool.and_eq_true, decide_eq_true_eq] at h
  obtain ⟨-, ⟨⟨⟨h1, h2⟩, h3⟩, h4⟩, h5⟩ := h
  have hp := Pg.small_iff.1 h1
  unfold St.many at h5
  have hw : (s.wts.take 4).flatten = s.w0 ++ s.w1 ++ s.w2 ++ s.w3 := by simp [St.wts]
  rw [hw] at h5
  simp only [List.length_append] at h5
  exact ⟨⟨by omega, fun l hl => by have := hp.1 l hl; omega⟩, by omega, by omega, by omega, by omega, ⟨by omega, by omega, by omega, by omega⟩, by omega, hi.tnum⟩
set_option maxRecDepth 100000 in
set_option maxHeartbeats 8000000 in
theorem rstsmall_any (h : StH) (s : St) (r : Bool) (hr : s.small = r) (w : World) (hk : StOk w h s) (hf : StIn s) : Calls Try.prog 14 #[stV h s] w fun e w' => e = .returned (.bool r) ∧ Ext w w' := by
  subst hr
  have f1 := hf.gs
  have f2 := hf.ps
  have f3 := hf.ms
  have f4 := hf.glob
  have f5 := hf.timers
  have F2 := Lib.hid hf.w
  have FP := Lib.hid hf.prog
  have HK := Lib.hid hk
  obtain ⟨w1, hw1⟩ : ∃ w1, w.alloc (.cells #[.slice h.pa s.prog.length h.pc, .slice h.ga s.gs.length h.gc, .slice h.qa s.ps.length h.qc, .slice h.ma s.ms.length h.mc, .slice h.la s.glob.length h.lc, .int .i64 s.c0, .int .i64 s.c1, .int .i64 s.c2, .int .i64 s.c3, .slice h.a0 s.w0.length h.k0, .slice h.a1 s.w1.length h.k1, .slice h.a2 s.w2.length h.k2, .slice h.a3 s.w3.length h.k3, .slice h.ta s.timers.length h.tc, .int .i64 s.clock, .int .i64 s.procs] 32) = w1 := ⟨_, rfl⟩
  have HX1 : Hid (Ext w w1) := Lib.hid (by rw [← hw1]; exact (Ext.refl w).alloc _)
  have HB1 : Hid (w1.heap[w.heap.size]? = some (.cells (stC h s) 32 (0, 0))) := Lib.hid (by rw [← hw1]; exact blk_new w _)
  have HK1 := Lib.hid (hk.ext HX1.out)
  have HW1 := Lib.hid hw1
  clear hw1 hk
  clear hf
  have q4 := st4 HB1.out
  have q13 := st13 HB1.out
  unfold stV
  go_enter Try.func14, Try.ntmps14
  go_upto_region 1 with fail
  rw [HW1.out]
  generalize Value.agg #[.slice h.pa s.prog.length h.pc, .slice h.ga s.gs.length h.gc, .slice h.qa s.ps.length h.qc, .slice h.ma s.ms.length h.mc, .slice h.la s.glob.length h.lc, .int .i64 s.c0, .int .i64 s.c1, .int .i64 s.c2, .int .i64 s.c3, .slice h.a0 s.w0.length h.k0, .slice h.a1 s.w1.length h.k1, .slice h.a2 s.w2.length h.k2, .slice h.a3 s.w3.length h.k3, .slice h.ta s.timers.length h.tc, .int .i64 s.clock, .int .i64 s.procs] = sv0
  go_wp2_with fail
  clear q4 q13
  have q1 := st1 HB1.out
  go_loop [4] (fun iv => ∃ k : Nat, k ≤ s.gs.length ∧ iv = .int .i64 k ∧ ∀ (j : Nat) g, s.gs[j]? = some g → j < k → g.seq ≤ 1000000) (fun iv => s.gs.length - (intOf iv).toNat)
  case atStart => exact ⟨0, by omega, rfl, fun j l _ h => by omega⟩
  case round =>
    obtain ⟨k, hk, rfl, hall⟩ := hrel
    have HALL := Lib.hid hall
    clear hall
    by_cases hlt : k < s.gs.length
    · obtain ⟨g, hg⟩ : ∃ g, s.gs[k]? = some g := ⟨_, List.getElem?_eq_getElem hlt⟩
      obtain ⟨b, o, hA, hb, p0, p1, p2, p3, p4⟩ := gs_get HK1.out.gs hg
      rw [hA] at q1
      have HG := Lib.hid hg
      clear hg hb p0 p1 p2 p3 hA
      by_cases h3 : g.seq ≤ 1000000
      · have H3 := Lib.hid h3
        go_wp2
        go_round
        case rel =>
          refine ⟨k + 1, by omega, by go_num, fun j l hj hjk => ?_⟩
          by_cases hjk2 : j < k
          · exact HALL.out j l hj hjk2
          · obtain rfl : j = k := by omega
            rw [← some_eq HG.out hj]
            exact H3.out
        case measure => simp [intOf]; omega
      · have h3' : (1000000 : Int) < g.seq := by omega
        have HNO : Hid (s.small = false) := Lib.hid (by
          unfold St.small; rw [all_no HG.out (by simpa using h3)]; rfl)
        clear h3
        go_wp2
        (go_ret; exact ⟨by rw [HNO.out] <;> rfl, HX1.out⟩)
    · obtain rfl : k = s.gs.length := by omega
      have HGY : Hid (s.gs.all (fun g => decide (g.seq ≤ 1000000)) = true) := Lib.hid (all_yes fun j l hj => by simpa using HALL.out j l hj (List.getElem?_eq_some_iff.1 hj).1)
      clear HALL
      go_wp2_with fail
      clear q1
      have q2 := st2 HB1.out
      go_loop [5] (fun iv => ∃ k : Nat, k ≤ s.ps.length ∧ iv = .int .i64 k ∧ ∀ (j : Nat) g, s.ps[j]? = some g → j < k → g.seq ≤ 1000000) (fun iv => s.ps.length - (intOf iv).toNat)
      case atStart => exact ⟨0, by omega, rfl, fun j l _ h => by omega⟩
      case round =>
        obtain ⟨k, hk, rfl, hall⟩ := hrel
        have HALL := Lib.hid hall
        clear hall
        by_cases hlt : k < s.ps.length
        · obtain ⟨p, hp⟩ : ∃ p, s.ps[k]? = some p := ⟨_, List.getElem?_eq_getElem hlt⟩
          have HG := Lib.hid hp
          obtain ⟨m, nx, r, sq⟩ := p
          obtain ⟨b0, b1, b2, b3, b4, b5, b6, b7, hd, nn, rfl⟩ := Ri.open8 (HK.out.buf _ (List.mem_of_getElem? hp))
          obtain ⟨b, o, hA, hb, hc⟩ := ps_get HK1.out.ps hp
          obtain ⟨-, -, -, -, -, -, p12⟩ := hc
          rw [hA] at q2
          clear hp hb hA
          by_cases h3 : sq ≤ 1000000
          · have H3 := Lib.hid h3
            go_wp2
            go_round
            case rel =>
              refine ⟨k + 1, by omega, by go_num, fun j l hj hjk => ?_⟩
              by_cases hjk2 : j < k
              · exact HALL.out j l hj hjk2
              · obtain rfl : j = k := by omega
                rw [← some_eq HG.out hj]
                exact H3.out
            case measure => simp [intOf]; omega
          · have h3' : (1000000 : Int) < sq := by omega
            have HNO : Hid (s.small = false) := Lib.hid (by
              unfold St.small; rw [HGY.out, all_no HG.out (by simpa using h3)]; rfl)
            clear h3
            go_wp2
            (go_ret; exact ⟨by rw [HNO.out] <;> rfl, HX1.out⟩)
        · obtain rfl : k = s.ps.length := by omega
          have HPY : Hid (s.ps.all (fun g => decide (g.seq ≤ 1000000)) = true) := Lib.hid (all_yes fun j l hj => by simpa using HALL.out j l hj (List.getElem?_eq_some_iff.1 hj).1)
          clear HALL
          have q14 := st14 HB1.out
          by_cases hcl : s.clock ≤ 1000000000
          rotate_left 1
          · have hcl' : (1000000000 : Int) < s.clock := by omega
            have HNO : Hid (s.small = false) := Lib.hid (by
              unfold St.small; rw [HGY.out, HPY.out, decide_eq_false hcl]; rfl)
            clear hcl
            go_wp2
            (go_ret; exact ⟨by rw [HNO.out] <;> rfl, HX1.out⟩)
          have HSM : Hid (s.small = (Pg.small s.prog && decide (s.gs.length ≤ 40) && decide (s.ps.length ≤ 10) && decide (s.ms.length ≤ 40) && decide (s.many 4 ≤ 80))) := Lib.hid (by
            unfold St.small; rw [HGY.out, HPY.out, decide_eq_true hcl]; rfl)
          go_wp2_with fail
          clear q2 q14
          have HMS : Hid (∀ k, k ≤ 4 → s.many k ≤ 844424930131968) := Lib.hid fun k hk => by
            unfold St.many
            have h4 : ((s.wts.take k).flatten).length ≤ (s.wts.flatten).length := by
              have e : s.wts.flatten = (s.wts.take k).flatten ++ (s.wts.drop k).flatten := by rw [← List.flatten_append, List.take_append_drop]
              rw [e, List.length_append]; omega
            have hw : s.wts.flatten = s.w0 ++ s.w1 ++ s.w2 ++ s.w3 := by simp [St.wts]
            rw [hw] at h4
            simp only [List.length_append] at h4
            have := F2.out
            omega
          go_loop [3, 6] (fun mv iv => ∃ k : Nat, k ≤ 4 ∧ iv = .int .i64 k ∧ ∃ m : Nat, m = s.many k ∧ mv = .int .i64 m) (fun _ iv => 4 - (intOf iv).toNat)
          case atStart => exact ⟨0, by omega, rfl, s.glob.length + s.timers.length, by simp [St.many], by simp⟩
          case round =>
            obtain ⟨k, hk, rfl, m, hm, rfl⟩ := hrel
            have HM := Lib.hid hm
            have hml : (m : Int) ≤ 844424930131968 := by have := HMS.out k hk; omega
            clear hm
            by_cases hlt : k < 4
            · obtain ⟨A0, d0, l, hcell, hI, hl⟩ := HK1.out.wait hlt
              have q9 := blk_cell HB1.out (9 + k) _ hcell
              have HN : Hid (s.many (k + 1) = m + l.length) := Lib.hid (by rw [HM.out]; unfold St.many; rw [flatten_next hl, List.length_append]; omega)
              have hll : (l.length : Int) ≤ 844424930131968 := by have := HMS.out (k + 1) (by omega); have := HN.out; omega
              clear hcell hI hl
              go_wp2
              go_round
              case rel => exact ⟨k + 1, by omega, by go_num, m + l.length, HN.out.symm, by go_num⟩
              case measure => simp [intOf]; omega
            · have HM4 : Hid (s.many 4 = m) := Lib.hid (by obtain rfl : k = 4 := by omega
                                                           exact HM.out.symm)
              have HPS := Lib.hid (rpsmall_any _ s.prog _ rfl w1 HK1.out.prog FP.out.1 FP.out.2)
              have q0 := st0 HB1.out
              go_wp2_with fail
              refine HPS.out.mono ?_
              rintro e w' ⟨rfl, rfl⟩
              clear q0
              cases bp : Pg.small s.prog with
              | false =>
                have HNO : Hid (s.small = false) := Lib.hid (by rw [HSM.out, bp]; rfl)
                go_wp2
                (go_ret; exact ⟨by rw [HNO.out] <;> rfl, HX1.out⟩)
              | true =>
              have q1 := st1 HB1.out
              have q2 := st2 HB1.out
              have q3 := st3 HB1.out
              by_cases a1 : s.gs.length ≤ 40
              rotate_left 1
              · have HNO : Hid (s.small = false) := Lib.hid (by rw [HSM.out, bp, decide_eq_false a1]; rfl)
                have a1' : decide ((s.gs.length : Int) ≤ 40) = false := by simp; omega
                clear a1
                go_wp2
                (go_ret; exact ⟨by rw [HNO.out] <;> rfl, HX1.out⟩)
              have a1' : (s.gs.length : Int) ≤ 40 := by omega
              by_cases a2 : s.ps.length ≤ 10
              rotate_left 1
              · have HNO : Hid (s.small = false) := Lib.hid (by rw [HSM.out, bp, decide_eq_true a1, decide_eq_false a2]; rfl)
                have a2' : decide ((s.ps.length : Int) ≤ 10) = false := by simp; omega
                clear a1 a2
                go_wp2
                (go_ret; exact ⟨by rw [HNO.out] <;> rfl, HX1.out⟩)
              have a2' : (s.ps.length : Int) ≤ 10 := by omega
              by_cases a3 : s.ms.length ≤ 40
              rotate_left 1
              · have HNO : Hid (s.small = false) := Lib.hid (by rw [HSM.out, bp, decide_eq_true a1, decide_eq_true a2, decide_eq_false a3]; rfl)
                have a3' : decide ((s.ms.length : Int) ≤ 40) = false := by simp; omega
                clear a1 a2 a3
                go_wp2
                (go_ret; exact ⟨by rw [HNO.out] <;> rfl, HX1.out⟩)
              have a3' : (s.ms.length : Int) ≤ 40 := by omega
              by_cases a4 : m ≤ 80
              rotate_left 1
              · have HNO : Hid (s.small = false) := Lib.hid (by rw [HSM.out, bp, decide_eq_true a1, decide_eq_true a2, decide_eq_true a3, HM4.out, decide_eq_false a4]; rfl)
                have a4' : decide ((m : Int) ≤ 80) = false := by simp; omega
                clear a1 a2 a3 a4
                go_wp2
                (go_ret; exact ⟨by rw [HNO.out] <;> rfl, HX1.out⟩)
              have a4' : (m : Int) ≤ 80 := by omega
              have HNO : Hid (s.small = true) := Lib.hid (by rw [HSM.out, bp, decide_eq_true a1, decide_eq_true a2, decide_eq_true a3, HM4.out, decide_eq_true a4]; rfl)
              clear a1 a2 a3 a4
              go_wp2
              (go_ret; exact ⟨by rw [HNO.out] <;> rfl, HX1.out⟩)
set_option maxRecDepth 100000 in
set_option maxHeartbeats 1000000 in
theorem rsame_any (v u : Value) (xs ys : List (Int × Int)) (w : World) (h : PairsAt w v xs) (k : PairsAt w u ys) (hn : xs.length ≤ 9000) :
    Calls Try.prog 66 #[v, u] w fun e w' => e = .returned (.bool (decide (xs = ys))) ∧ Ext w w' := by
  obtain ⟨A, c, rfl, _, hA⟩ := h
  obtain ⟨B, d, rfl, _, hB⟩ := k
  have HA := Lib.hid hA; clear hA
  have HB := Lib.hid hB; clear hB
  by_cases hl : xs.length = ys.length
  · have hlb : ((xs.length : Int) != (ys.length : Int)) = false := by simp; omega
    have HL := Lib.hid hl; clear hl
    go_enter Try.func66, Try.ntmps66
    go_wp2
    go_loopw [5] (fun i wr => ∃ k : Nat, k ≤ xs.length ∧ i = .int .i64 k ∧ xs.take k = ys.take k ∧ Ext w wr) (fun i _ => xs.length - (intOf i).toNat)
    case atStart => exact ⟨0, by omega, rfl, by simp, Ext.refl _⟩
    case round =>
      obtain ⟨k, hk, rfl, heq, hx⟩ := hrel
      have HE := Lib.hid heq; clear heq
      have HX := Lib.hid hx; clear hx
      by_cases hlt : k < xs.length
      · have hlt2 : k < ys.length := by have := HL.out; omega
        obtain ⟨b, o, rfl, hb, hc⟩ := HA.out (by omega)
        obtain ⟨b2, o2, rfl, hb2, hc2⟩ := HB.out (by omega)
        have HC1 := Lib.hid (hc k _ (List.getElem?_eq_getElem hlt))
        have HC2 := Lib.hid (hc2 k _ (List.getElem?_eq_getElem hlt2))
        have HB1 := Lib.hid hb
        have HB2 := Lib.hid hb2
        have HT : Hid (xs.take (k + 1) = xs.take k ++ [xs[k]] ∧ ys.take (k + 1) = ys.take k ++ [ys[k]]) := Lib.hid ⟨by rw [List.take_succ_eq_append_getElem hlt], by rw [List.take_succ_eq_append_getElem hlt2]⟩
        have HNE : Hid (xs[k] ≠ ys[k] → xs ≠ ys) := Lib.hid (fun hn he => by subst he; exact hn rfl)
        clear hc hc2 hb hb2
        generalize xs[k] = x at *
        generalize ys[k] = y at *
        obtain ⟨x0, x1⟩ := x
        obtain ⟨y0, y1⟩ := y
        simp only at HC1 HC2
        have K0 : ∀ v, Ext w v → v.cell? ⟨b, o + k * 2, none⟩ = some (.int .i64 x0) := fun v hv => by rw [Below.cell hv HB1.out]; exact HC1.out.1
        have K1 : ∀ v, Ext w v → v.cell? ⟨b, o + k * 2 + 1, none⟩ = some (.int .i64 x1) := fun v hv => by rw [Below.cell hv HB1.out]; exact HC1.out.2
        have K2 : ∀ v, Ext w v → v.cell? ⟨b2, o2 + k * 2, none⟩ = some (.int .i64 y0) := fun v hv => by rw [Below.cell hv HB2.out]; exact HC2.out.1
        have K3 : ∀ v, Ext w v → v.cell? ⟨b2, o2 + k * 2 + 1, none⟩ = some (.int .i64 y1) := fun v hv => by rw [Below.cell hv HB2.out]; exact HC2.out.2
        by_cases h0 : x0 = y0
        · by_cases h1 : x1 = y1
          · subst h0 h1
            go_wp2
            refine region_all (fun v => Ext w v) (by kernel_rfl) HX.out.drew ?_
            refine all_take (i := 0) (v := ?_) rfl (by kernel_rfl) (by kernel_rfl) (by kernel_rfl) (fun _ _ _ h => h) (Tame.yes (by kernel_rfl) fun w hS => ?_) ?_
            rotate_left 1
            · skip
              go_simp
              try simp only [beq_self_eq_true, bne_self_eq_false]
              refine gives_mk ?_ hS
              with_reducible rfl
            refine all_take (i := 1) (v := ?_) rfl (by kernel_rfl) (by kernel_rfl) (by kernel_rfl) (fun _ _ _ h => h) (Tame.yes (by kernel_rfl) fun w hS => ?_) ?_
            rotate_left 1
            · skip
              go_simp
              try simp only [beq_self_eq_true, bne_self_eq_false]
              refine gives_mk ?_ hS
              with_reducible rfl
            refine all_take (i := 2) (v := ?_) rfl (by kernel_rfl) (by kernel_rfl) (by kernel_rfl) (fun _ _ _ h => h) (Tame.yes (by kernel_rfl) fun w hS => ?_) ?_
            rotate_left 1
            · skip
              go_simp
              try simp only [beq_self_eq_true, bne_self_eq_false]
              refine gives_mk ?_ hS
              with_reducible rfl
            refine all_take (i := 3) (v := ?_) rfl (by kernel_rfl) (by kernel_rfl) (by kernel_rfl) (fun _ _ _ h => h) (Tame.yes (by kernel_rfl) fun w hS => ?_) ?_
            rotate_left 1
            · skip
              go_simp
              try simp only [beq_self_eq_true, bne_self_eq_false]
              refine gives_mk ?_ hS
              with_reducible rfl
            refine all_take (i := 4) (v := ?_) rfl (by kernel_rfl) (by kernel_rfl) (by kernel_rfl) (fun _ _ _ h => h) (Tame.yes (by kernel_rfl) fun w hS => ?_) ?_
            rotate_left 1
            · skip
              go_simp
              try simp only [beq_self_eq_true, bne_self_eq_false]
              refine gives_mk ?_ hS
              with_reducible rfl
            refine all_take (i := 5) (v := ?_) rfl (by kernel_rfl) (by kernel_rfl) (by kernel_rfl) (fun _ _ _ h => h) (Tame.yes (by kernel_rfl) fun w hS => ?_) ?_
            rotate_left 1
            · skip
              go_simp
              try simp only [beq_self_eq_true, bne_self_eq_false]
              refine gives_mk ?_ hS
              with_reducible rfl
            refine all_take (i := 6) (v := ?_) rfl (by kernel_rfl) (by kernel_rfl) (by kernel_rfl) (fun _ _ _ h => h) (Tame.yes (by kernel_rfl) fun w hS => ?_) ?_
            rotate_left 1
            · skip
              go_simp
              try simp only [beq_self_eq_true, bne_self_eq_false]
              refine gives_mk ?_ hS
              with_reducible rfl
            refine all_take (i := 7) (v := ?_) rfl (by kernel_rfl) (by kernel_rfl) (by kernel_rfl) (fun _ _ _ h => h) (Tame.yes (by kernel_rfl) fun w hS => ?_) ?_
            rotate_left 1
            · skip
              go_simp
              try simp only [beq_self_eq_true, bne_self_eq_false]
              refine gives_mk ?_ hS
              with_reducible rfl
            refine all_take (i := 8) (v := ?_) rfl (by kernel_rfl) (by kernel_rfl) (by kernel_rfl) (fun _ _ _ h => h) (Tame.yes (by kernel_rfl) fun w hS => ?_) ?_
            rotate_left 1
            · skip
              go_simp
              try simp only [beq_self_eq_true, bne_self_eq_false]
              refine gives_mk ?_ hS
              with_reducible rfl
            refine all_done (by kernel_rfl) ?_ _
            intro w2 hx2
            have HX2 := Lib.hid hx2
            clear hx2 K0 K1 K2 K3
            go_simp
            go_wp2
            go_roundw
            case rel => exact ⟨k + 1, by omega, by go_num, by rw [HT.out.1, HT.out.2, HE.out], HX2.out⟩
            case measure => simp [intOf]; omega
          · have hb1 : (x1 == y1) = false := by simpa using h1
            have HNO : Hid (decide (xs = ys) = false) := Lib.hid (decide_eq_false (HNE.out (by simp [h1])))
            subst h0
            clear h1
            go_wp2
            refine region_all (fun v => Ext w v) (by kernel_rfl) HX.out.drew ?_
            refine all_take (i := 0) (v := ?_) rfl (by kernel_rfl) (by kernel_rfl) (by kernel_rfl) (fun _ _ _ h => h) (Tame.yes (by kernel_rfl) fun w hS => ?_) ?_
            rotate_left 1
            · skip
              go_simp
              try simp only [hb1]
              refine gives_mk ?_ hS
              with_reducible rfl
            refine all_take (i := 1) (v := ?_) rfl (by kernel_rfl) (by kernel_rfl) (by kernel_rfl) (fun _ _ _ h => h) (Tame.yes (by kernel_rfl) fun w hS => ?_) ?_
            rotate_left 1
            · skip
              go_simp
              try simp only [hb1]
              refine gives_mk ?_ hS
              with_reducible rfl
            refine all_take (i := 2) (v := ?_) rfl (by kernel_rfl) (by kernel_rfl) (by kernel_rfl) (fun _ _ _ h => h) (Tame.yes (by kernel_rfl) fun w hS => ?_) ?_
            rotate_left 1
            · skip
              go_simp
              try simp only [hb1]
              refine gives_mk ?_ hS
              with_reducible rfl
            refine all_take (i := 3) (v := ?_) rfl (by kernel_rfl) (by kernel_rfl) (by kernel_rfl) (fun _ _ _ h => h) (Tame.yes (by kernel_rfl) fun w hS => ?_) ?_
            rotate_left 1
            · skip
              go_simp
              try simp only [hb1]
              refine gives_mk ?_ hS
              with_reducible rfl
            refine all_take (i := 4) (v := ?_) rfl (by kernel_rfl) (by kernel_rfl) (by kernel_rfl) (fun _ _ _ h => h) (Tame.yes (by kernel_rfl) fun w hS => ?_) ?_
            rotate_left 1
            · skip
              go_simp
              try simp only [hb1]
              refine gives_mk ?_ hS
              with_reducible rfl
            refine all_take (i := 5) (v := ?_) rfl (by kernel_rfl) (by kernel_rfl) (by kernel_rfl) (fun _ _ _ h => h) (Tame.yes (by kernel_rfl) fun w hS => ?_) ?_
            rotate_left 1
            · skip
              go_simp
              try simp only [hb1]
              refine gives_mk ?_ hS
              with_reducible rfl
            refine all_take (i := 6) (v := ?_) rfl (by kernel_rfl) (by kernel_rfl) (by kernel_rfl) (fun _ _ _ h => h) (Tame.yes (by kernel_rfl) fun w hS => ?_) ?_
            rotate_left 1
            · skip
              go_simp
              try simp only [hb1]
              refine gives_mk ?_ hS
              with_reducible rfl
            refine all_take (i := 7) (v := ?_) rfl (by kernel_rfl) (by kernel_rfl) (by kernel_rfl) (fun _ _ _ h => h) (Tame.yes (by kernel_rfl) fun w hS => ?_) ?_
            rotate_left 1
            · skip
              go_simp
              try simp only [hb1]
              refine gives_mk ?_ hS
              with_reducible rfl
            refine all_take (i := 8) (v := ?_) rfl (by kernel_rfl) (by kernel_rfl) (by kernel_rfl) (fun _ _ _ h => h) (Tame.yes (by kernel_rfl) fun w hS => ?_) ?_
            rotate_left 1
            · skip
              go_simp
              try simp only [hb1]
              refine gives_mk ?_ hS
              with_reducible rfl
            clear hb1
            refine all_done (by kernel_rfl) ?_ _
            intro w2 hx2
            have HX2 := Lib.hid hx2
            clear hx2 K0 K1 K2 K3
            go_simp
            go_wp2
            go_ret
            exact ⟨by rw [HNO.out]; rfl, HX2.out⟩
        · have hb0 : (x0 == y0) = false := by simpa using h0
          have HNO : Hid (decide (xs = ys) = false) := Lib.hid (decide_eq_false (HNE.out (by simp [h0])))
          clear h0
          go_wp2
          refine region_all (fun v => Ext w v) (by kernel_rfl) HX.out.drew ?_
          refine all_take (i := 0) (v := ?_) rfl (by kernel_rfl) (by kernel_rfl) (by kernel_rfl) (fun _ _ _ h => h) (Tame.yes (by kernel_rfl) fun w hS => ?_) ?_
          rotate_left 1
          · skip
            go_simp
            try simp only [hb0]
            refine gives_mk ?_ hS
            with_reducible rfl
          refine all_take (i := 1) (v := ?_) rfl (by kernel_rfl) (by kernel_rfl) (by kernel_rfl) (fun _ _ _ h => h) (Tame.yes (by kernel_rfl) fun w hS => ?_) ?_
          rotate_left 1
          · skip
            go_simp
            try simp only [hb0]
            refine gives_mk ?_ hS
            with_reducible rfl
          refine all_take (i := 2) (v := ?_) rfl (by kernel_rfl) (by kernel_rfl) (by kernel_rfl) (fun _ _ _ h => h) (Tame.yes (by kernel_rfl) fun w hS => ?_) ?_
          rotate_left 1
          · skip
            go_simp
            try simp only [hb0]
            refine gives_mk ?_ hS
            with_reducible rfl
          refine all_take (i := 3) (v := ?_) rfl (by kernel_rfl) (by kernel_rfl) (by kernel_rfl) (fun _ _ _ h => h) (Tame.yes (by kernel_rfl) fun w hS => ?_) ?_
          rotate_left 1
          · skip
            go_simp
            try simp only [hb0]
            refine gives_mk ?_ hS
            with_reducible rfl
          refine all_take (i := 4) (v := ?_) rfl (by kernel_rfl) (by kernel_rfl) (by kernel_rfl) (fun _ _ _ h => h) (Tame.yes (by kernel_rfl) fun w hS => ?_) ?_
          rotate_left 1
          · skip
            go_simp
            try simp only [hb0]
            refine gives_mk ?_ hS
            with_reducible rfl
          refine all_take (i := 5) (v := ?_) rfl (by kernel_rfl) (by kernel_rfl) (by kernel_rfl) (fun _ _ _ h => h) (Tame.yes (by kernel_rfl) fun w hS => ?_) ?_
          rotate_left 1
          · skip
            go_simp
            try simp only [hb0]
            refine gives_mk ?_ hS
            with_reducible rfl
          refine all_take (i := 6) (v := ?_) rfl (by kernel_rfl) (by kernel_rfl) (by kernel_rfl) (fun _ _ _ h => h) (Tame.yes (by kernel_rfl) fun w hS => ?_) ?_
          rotate_left 1
          · skip
            go_simp
            try simp only [hb0]
            refine gives_mk ?_ hS
            with_reducible rfl
          refine all_take (i := 7) (v := ?_) rfl (by kernel_rfl) (by kernel_rfl) (by kernel_rfl) (fun _ _ _ h => h) (Tame.yes (by kernel_rfl) fun w hS => ?_) ?_
          rotate_left 1
          · skip
            go_simp
            try simp only [hb0]
            refine gives_mk ?_ hS
            with_reducible rfl
          refine all_take (i := 8) (v := ?_) rfl (by kernel_rfl) (by kernel_rfl) (by kernel_rfl) (fun _ _ _ h => h) (Tame.yes (by kernel_rfl) fun w hS => ?_) ?_
          rotate_left 1
          · skip
            go_simp
            try simp only [hb0]
            refine gives_mk ?_ hS
            with_reducible rfl
          clear hb0
          refine all_done (by kernel_rfl) ?_ _
          intro w2 hx2
          have HX2 := Lib.hid hx2
          clear hx2 K0 K1 K2 K3
          go_simp
          go_wp2
          go_ret
          exact ⟨by rw [HNO.out]; rfl, HX2.out⟩
      · obtain rfl : k = xs.length := by omega
        have HXY : Hid (decide (xs = ys) = true) := Lib.hid (decide_eq_true (by have := HE.out; rwa [List.take_length, HL.out, List.take_length] at this))
        go_wp2
        go_ret
        exact ⟨by rw [HXY.out]; rfl, HX.out⟩
  · have hlb : ((xs.length : Int) != (ys.length : Int)) = true := by simp; omega
    have HL : Hid (decide (xs = ys) = false) := Lib.hid (decide_eq_false fun h => hl (by rw [h])); clear hl
    go_enter Try.func66, Try.ntmps66
    go_wp2
    go_ret
    exact ⟨by rw [HL.out]; rfl, Ext.refl _⟩
theorem rsame_eq (v u : Value) (xs ys : List (Int × Int)) (b : Bool) (hb : decide (xs = ys) = b) (w : World) (h : PairsAt w v xs) (k : PairsAt w u ys) (hn : xs.length ≤ 9000) :
    Calls Try.prog 66 #[v, u] w fun e w' => e = .returned (.bool b) ∧ Ext w w' := by subst hb; exact rsame_any v u xs ys w h k hn
end Go.Proofs.Ytogcfndhcphpaaa
