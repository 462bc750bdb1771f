/-
  Several texts in one: Yi, Yj, Yk, Yl, Ym, Yn.
-/
import Derived.Test.YtogcfndhcphpaaaC15
import Derived.Test.YtogcfndhcphpaaaC13
import Derived.Test.YtogcfndhcphpaaaC01
import Derived.Test.YtogcfndhcphpaaaC14
set_option linter.unusedVariables false
set_option linter.unusedSimpArgs false
namespace Go.Proofs.Ytogcfndhcphpaaa
open Go.RowKit
namespace St
def dropP (g : Int) (p : Pr) : Pr := { p with next := if p.next = g then 0 else p.next, ring := Ri.at' p.ring.head.toNat (p.ring.list.filter (· != g)) }
def drop1 (s : St) (g : Int) : St := { s with ps := s.ps.map (dropP g), glob := s.glob.filter (· != g) }
def dropK (s : St) (g : Int) (k : Nat) : St := { s with ps := (s.ps.take k).map (dropP g) ++ s.ps.drop k }
theorem dropK_get {s : St} {g : Int} {k : Nat} {p : Pr} (h : s.ps[k]? = some p) : (s.dropK g k).ps[k]? = some p ∧ (s.dropK g (k + 1)).ps = (s.dropK g k).ps.set k (dropP g p) := by
  have hl := (List.getElem?_eq_some_iff.1 h).1
  have hlen : ((s.ps.take k).map (dropP g)).length = k := by rw [List.length_map, List.length_take]; omega
  unfold dropK
  simp only
  refine ⟨by rw [List.getElem?_append_right (by omega), hlen, Nat.sub_self, List.getElem?_drop, Nat.add_zero]; exact h, ?_⟩
  rw [List.set_append_right _ _ (by omega), hlen, Nat.sub_self, List.take_add_one, h, List.map_append, drop_next h, List.set_cons_zero, List.append_assoc]
  rfl
theorem dropK_len {s : St} {g : Int} {k : Nat} : (s.dropK g k).ps.length = s.ps.length := by
  unfold dropK
  simp only [List.length_append, List.length_map, List.length_take, List.length_drop]
  omega
theorem dropP_ring {p : Pr} {g : Int} (hb : p.ring.buf.length = 8) (hm : p.ring.may = true) : (Ri.at' p.ring.head.toNat (p.ring.list.filter (· != g))).Holds (p.ring.list.filter (· != g)) ∧ (Ri.at' p.ring.head.toNat (p.ring.list.filter (· != g))).head = p.ring.head := by
  have hh := Ri.holds_may hb hm
  have hn := Ri.holds_n hh
  have hpos := Ri.holds_pos hh
  obtain ⟨a, b, d1, d2, d3, _⟩ := hh
  exact ⟨Ri.at_holds (by omega) (Nat.le_trans (List.length_filter_le _ _) hn.2) (fun x hx => hpos x (List.mem_filter.1 hx).1), by show ((p.ring.head.toNat : Nat) : Int) = p.ring.head; omega⟩
theorem drop1_good {s : St} (h : StGood s) (hm : ∀ p ∈ s.ps, p.ring.may = true) (g : Int) : StGood (s.drop1 g) := by
  have hf := h.few
  refine ⟨⟨hf.prog, hf.gs, by show (s.ps.map _).length ≤ _; rw [List.length_map]; exact hf.ps, hf.ms, Nat.le_trans (List.length_filter_le _ _) hf.glob, hf.w, hf.timers, hf.tnum⟩, fun p hp => ?_, h.tim⟩
  obtain ⟨q, hq, rfl⟩ := List.mem_map.1 hp
  exact Ri.holds_len (dropP_ring (h.buf q hq) (hm q hq)).1
end St
theorem givesV_PY {P : Program} {v : Value} {w : World} {r : Result Next} (h : GivesP v w r) : GivesV P (fun w' => w' = w) v r := by
  obtain ⟨h⟩ := h
  unfold GivesP' at h
  unfold GivesV
  split at h <;> simp_all
theorem skip_storeY {P : Program} {o : Oper} {a : Act} {w : World} (ty : TypeId) (x y : Operand) (ho : o.op = .store ty x y) (b off : Nat) (hx : a.eval x = .pointer (some ⟨b, off, none⟩)) (ds : List Value) (hy : a.eval y = .agg ds.toArray)
    (ht : w.there b off ds.length) (hi : (P.info? ty).map (·.size) = some ds.length) (h1 : ∀ u ∈ ds, u.oneCell' = true) : (execOp a.eval o).run P w = .ok .skip (w.setCells b off ds) := by
  unfold execOp
  simp only [ho, hx, hy, Instr.storeAt, Instr.sureAddr, Sem.run_bind, Sem.run_pure, Result.andThen_ok, run_storeVar_mid w b off ty ds.toArray (by simpa using ht) (by simpa using hi) (all_oneCell_toArray h1)]
def StartR (w : World) (s : St) (p g : Int) (e : Ending) (w' : World) : Prop :=
  ((s.looks p = false ∨ g < 1 ∨ (s.gs.length : Int) < g ∨ ∃ (k : Nat) (y : Gr), g = (k : Int) + 1 ∧ s.gs[k]? = some y ∧ y.st ≠ 1) ∧ e = .returned (.tuple #[stV StH.nil St.nil, .int .i64 1]) ∧ Ext w w') ∨
  ∃ (i j k : Nat) (x : Pr) (y : Gr) (h' : StH), p = (i : Int) + 1 ∧ g = (k : Int) + 1 ∧ St.Idle s i j x ∧ s.gs[k]? = some y ∧ y.st = 1 ∧ e = .returned (.tuple #[stV h' ((s.drop1 g).runG p g), .int .i64 0]) ∧ StOk w' h' ((s.drop1 g).runG p g) ∧ Ext w w'
set_option maxRecDepth 100000 in
set_option maxHeartbeats 32000000 in
theorem fStart_any (h : StH) (s : St) (p g : Int) (w : World) (hk : StOk w h s) (hg : StGood s) : Calls Try.prog 37 #[stV h s, .int .i64 p, .int .i64 g] w (StartR w s p g) := by
  have hf := hg.few
  have HSG := Lib.hid hg
  clear hg
  have HF := Lib.hid hf
  have HK := Lib.hid hk
  obtain ⟨W0, hW0⟩ : ∃ W0, w.heap.size = W0 := ⟨_, rfl⟩
  obtain ⟨G0, hG0⟩ : ∃ G0, W0 + 1 = G0 := ⟨_, rfl⟩
  obtain ⟨R, hR⟩ : ∃ R, G0 + 1 = R := ⟨_, rfl⟩
  obtain ⟨w2, hw2⟩ : ∃ w2, ((w.alloc (.cells #[.slice h.pa s.prog.length h.pc, .slice h.ga s.gs.length h.gc, .slice h.qa s.ps.length h.qc, .slice h.ma s.ms.length h.mc, .slice h.la s.glob.length h.lc, .int .i64 s.c0, .int .i64 s.c1, .int .i64 s.c2, .int .i64 s.c3, .slice h.a0 s.w0.length h.k0, .slice h.a1 s.w1.length h.k1, .slice h.a2 s.w2.length h.k2, .slice h.a3 s.w3.length h.k3, .slice h.ta s.timers.length h.tc, .int .i64 s.clock, .int .i64 s.procs] 32)).alloc (.cells #[.int .i64 g] 3)).alloc (.cells #[.slice none 0 0, .slice none 0 0, .slice none 0 0, .slice none 0 0, .slice none 0 0, .int .i64 0, .int .i64 0, .int .i64 0, .int .i64 0, .slice none 0 0, .slice none 0 0, .slice none 0 0, .slice none 0 0, .slice none 0 0, .int .i64 0, .int .i64 0] 32) = w2 := ⟨_, rfl⟩
  have HX1 : Hid (Ext w w2) := Lib.hid (by rw [← hw2]; exact (((Ext.refl w).alloc _).alloc _).alloc _)
  have HB1 : Hid (w2.heap[W0]? = some (.cells (stC h s) 32 (0, 0))) := Lib.hid (by rw [← hw2, ← hW0]; exact blk_alloc (blk_alloc (blk_new w _) _) _)
  have HG1 : Hid (w2.heap[G0]? = some (.cells #[.int .i64 g] 3 (0, 0))) := Lib.hid (by
    have := blk_alloc (blk_new (w.alloc (.cells #[.slice h.pa s.prog.length h.pc, .slice h.ga s.gs.length h.gc, .slice h.qa s.ps.length h.qc, .slice h.ma s.ms.length h.mc, .slice h.la s.glob.length h.lc, .int .i64 s.c0, .int .i64 s.c1, .int .i64 s.c2, .int .i64 s.c3, .slice h.a0 s.w0.length h.k0, .slice h.a1 s.w1.length h.k1, .slice h.a2 s.w2.length h.k2, .slice h.a3 s.w3.length h.k3, .slice h.ta s.timers.length h.tc, .int .i64 s.clock, .int .i64 s.procs] 32)) (.cells #[.int .i64 g] 3)) (.cells #[.slice none 0 0, .slice none 0 0, .slice none 0 0, .slice none 0 0, .slice none 0 0, .int .i64 0, .int .i64 0, .int .i64 0, .int .i64 0, .slice none 0 0, .slice none 0 0, .slice none 0 0, .slice none 0 0, .slice none 0 0, .int .i64 0, .int .i64 0] 32)
    rw [hw2, World.size_alloc, hW0, hG0] at this
    exact this)
  have HR1 : Hid (w2.heap[R]? = some (.cells #[.slice none 0 0, .slice none 0 0, .slice none 0 0, .slice none 0 0, .slice none 0 0, .int .i64 0, .int .i64 0, .int .i64 0, .int .i64 0, .slice none 0 0, .slice none 0 0, .slice none 0 0, .slice none 0 0, .slice none 0 0, .int .i64 0, .int .i64 0] 32 (0, 0))) := Lib.hid (by
    have := blk_new ((w.alloc (.cells #[.slice h.pa s.prog.length h.pc, .slice h.ga s.gs.length h.gc, .slice h.qa s.ps.length h.qc, .slice h.ma s.ms.length h.mc, .slice h.la s.glob.length h.lc, .int .i64 s.c0, .int .i64 s.c1, .int .i64 s.c2, .int .i64 s.c3, .slice h.a0 s.w0.length h.k0, .slice h.a1 s.w1.length h.k1, .slice h.a2 s.w2.length h.k2, .slice h.a3 s.w3.length h.k3, .slice h.ta s.timers.length h.tc, .int .i64 s.clock, .int .i64 s.procs] 32)).alloc (.cells #[.int .i64 g] 3)) (.cells #[.slice none 0 0, .slice none 0 0, .slice none 0 0, .slice none 0 0, .slice none 0 0, .int .i64 0, .int .i64 0, .int .i64 0, .int .i64 0, .slice none 0 0, .slice none 0 0, .slice none 0 0, .slice none 0 0, .slice none 0 0, .int .i64 0, .int .i64 0] 32)
    rw [hw2, World.size_alloc, World.size_alloc, hW0, hG0, hR] at this
    exact this)
  have HRR := Lib.hid hR
  have HG0 := Lib.hid hG0
  have HW0 := Lib.hid hW0
  have HW2 := Lib.hid hw2
  have HK1 := Lib.hid (hk.ext HX1.out)
  clear hk hf hw2 hW0 hR hG0
  obtain ⟨PQ, hPQ⟩ : ∃ PQ : Ending → World → Prop, PQ = StartR w s p g := ⟨_, rfl⟩
  rw [← hPQ]
  have HPQ := Lib.hid hPQ
  clear hPQ
  unfold stV
  go_enter Try.func37, Try.ntmps37
  go_upto_region 1 with fail
  rw [HW2.out, HW0.out, HG0.out, HRR.out]
  generalize Value.agg #[.slice h.pa s.prog.length h.pc, .slice h.ga s.gs.length h.gc, .slice h.qa s.ps.length h.qc, .slice h.ma s.ms.length h.mc, .slice h.la s.glob.length h.lc, .int .i64 s.c0, .int .i64 s.c1, .int .i64 s.c2, .int .i64 s.c3, .slice h.a0 s.w0.length h.k0, .slice h.a1 s.w1.length h.k1, .slice h.a2 s.w2.length h.k2, .slice h.a3 s.w3.length h.k3, .slice h.ta s.timers.length h.tc, .int .i64 s.clock, .int .i64 s.procs] = sv0
  go_wp2_with (refine wpList_load_rowW (by rfl) 32 _ rfl W0 (by go_simp) (stL h s) (stV h s) rfl _ (range_row HB1.out) Try.underlying32 rfl (by kernel_rfl) ?_)
  refine (flooks_any h s p _ rfl w2 HK1.out HF.out).mono ?_
  rintro e wa ⟨rfl, hxa⟩
  have HXA := Lib.hid (HX1.out.trans hxa)
  have HBA := Lib.hid (hxa.blk HB1.out)
  have HGA := Lib.hid (hxa.blk HG1.out)
  have HRA := Lib.hid (hxa.blk HR1.out)
  clear hxa
  cases bl : s.looks p with
  | false =>
    have HN := Lib.hid bl
    clear bl
    go_upto_if 34 with fail
    obtain ⟨wf, hwf⟩ : ∃ wf, wa.setCells R 0 (stL StH.nil St.nil) = wf := ⟨_, rfl⟩
    have hfn := fin_nil HRA.out HXA.out (show w.heap.size ≤ R by have := HRR.out; have := HG0.out; have := HW0.out; omega)
    rw [hwf] at hfn
    have HFN := Lib.hid hfn
    have HWF := Lib.hid hwf
    clear hfn hwf
    go_wp2_with (refine wpList_store_row rfl 32 _ _ rfl R (stL StH.nil St.nil) (stV StH.nil St.nil) rfl rfl rfl HFN.out.2.1 (by kernel_rfl) (stL_one _ _) HWF.out ?_)
    refine bodyPost_cell_tmp rfl R _ _ _ _ rfl HFN.out.1 Try.underlying32 rfl (by kernel_rfl) (.int .i64 1) rfl rfl ?_
    rw [HPQ.out]
    exact .inl ⟨.inl HN.out, rfl, HFN.out.2.2⟩
  | true =>
  obtain ⟨i, j, x, rfl, hi⟩ := St.looks_iff.1 bl
  have HI := Lib.hid hi
  clear hi bl
  have q1 := st1 HBA.out
  have qg := blk_cell HGA.out 0 _ rfl
  by_cases a1 : g < 1
  · have HN := Lib.hid a1
    go_upto_if 34 with fail
    clear q1 qg a1
    obtain ⟨wf, hwf⟩ : ∃ wf, wa.setCells R 0 (stL StH.nil St.nil) = wf := ⟨_, rfl⟩
    have hfn := fin_nil HRA.out HXA.out (show w.heap.size ≤ R by have := HRR.out; have := HG0.out; have := HW0.out; omega)
    rw [hwf] at hfn
    have HFN := Lib.hid hfn
    have HWF := Lib.hid hwf
    clear hfn hwf
    go_wp2_with (refine wpList_store_row rfl 32 _ _ rfl R (stL StH.nil St.nil) (stV StH.nil St.nil) rfl rfl rfl HFN.out.2.1 (by kernel_rfl) (stL_one _ _) HWF.out ?_)
    refine bodyPost_cell_tmp rfl R _ _ _ _ rfl HFN.out.1 Try.underlying32 rfl (by kernel_rfl) (.int .i64 1) rfl rfl ?_
    rw [HPQ.out]
    exact .inl ⟨.inr (.inl HN.out), rfl, HFN.out.2.2⟩
  by_cases a2 : (s.gs.length : Int) < g
  · have HN := Lib.hid a2
    go_upto_if 34 with fail
    clear q1 qg a1 a2
    obtain ⟨wf, hwf⟩ : ∃ wf, wa.setCells R 0 (stL StH.nil St.nil) = wf := ⟨_, rfl⟩
    have hfn := fin_nil HRA.out HXA.out (show w.heap.size ≤ R by have := HRR.out; have := HG0.out; have := HW0.out; omega)
    rw [hwf] at hfn
    have HFN := Lib.hid hfn
    have HWF := Lib.hid hwf
    clear hfn hwf
    go_wp2_with (refine wpList_store_row rfl 32 _ _ rfl R (stL StH.nil St.nil) (stV StH.nil St.nil) rfl rfl rfl HFN.out.2.1 (by kernel_rfl) (stL_one _ _) HWF.out ?_)
    refine bodyPost_cell_tmp rfl R _ _ _ _ rfl HFN.out.1 Try.underlying32 rfl (by kernel_rfl) (.int .i64 1) rfl rfl ?_
    rw [HPQ.out]
    exact .inl ⟨.inr (.inr (.inl HN.out)), rfl, HFN.out.2.2⟩
  obtain ⟨k, hgk⟩ : ∃ k : Nat, g = (k : Int) + 1 := ⟨(g - 1).toNat, by omega⟩
  obtain ⟨y, hy⟩ : ∃ y, s.gs[k]? = some y := ⟨_, List.getElem?_eq_getElem (by omega)⟩
  have HGK := Lib.hid hgk
  have HY := Lib.hid hy
  have e1 : g - 1 = (k : Int) := by omega
  have e4 : (k : Int) < (s.gs.length : Int) := by omega
  have e5 : (k : Int) < 100000 := by have := HF.out.gs; omega
  have e6 : (1 : Int) ≤ g := by omega
  have e7 : g ≤ 100001 := by omega
  obtain ⟨bg, og, hga, hgb, _, _, p2, _⟩ := gs_get ((HK.out.ext HXA.out).gs) hy
  rw [hga] at q1
  clear hgk hy hga hgb
  by_cases a3 : y.st = 1
  case neg =>
    have a3' : (y.st != 1) = true := by simpa using a3
    have HN := Lib.hid a3
    clear a3
    go_upto_if 34 with fail
    clear q1 qg a1 a2 a3' e1 e4 e5 e6 e7 p2
    obtain ⟨wf, hwf⟩ : ∃ wf, wa.setCells R 0 (stL StH.nil St.nil) = wf := ⟨_, rfl⟩
    have hfn := fin_nil HRA.out HXA.out (show w.heap.size ≤ R by have := HRR.out; have := HG0.out; have := HW0.out; omega)
    rw [hwf] at hfn
    have HFN := Lib.hid hfn
    have HWF := Lib.hid hwf
    clear hfn hwf
    go_wp2_with (refine wpList_store_row rfl 32 _ _ rfl R (stL StH.nil St.nil) (stV StH.nil St.nil) rfl rfl rfl HFN.out.2.1 (by kernel_rfl) (stL_one _ _) HWF.out ?_)
    refine bodyPost_cell_tmp rfl R _ _ _ _ rfl HFN.out.1 Try.underlying32 rfl (by kernel_rfl) (.int .i64 1) rfl rfl ?_
    rw [HPQ.out]
    exact .inl ⟨.inr (.inr (.inr ⟨k, y, HGK.out, HY.out, HN.out⟩)), rfl, HFN.out.2.2⟩
  have a3' : (y.st != 1) = false := by simpa using a3
  have HST := Lib.hid a3
  clear a3
  have d1 : decide (g < 1) = false := decide_eq_false a1
  have d2 : decide ((s.gs.length : Int) < g) = false := decide_eq_false a2
  go_upto_region 3 with fail
  clear q1 qg a1 a2 a3' e1 e4 e5 e6 e7 p2 d1 d2
  go_wp2_with (refine wpList_load_rowW (by rfl) 32 _ rfl W0 (by go_simp) (stL h s) (stV h s) rfl _ (range_row HBA.out) Try.underlying32 rfl (by kernel_rfl) ?_)
  refine (sCopy_any h s wa (HK.out.ext HXA.out) HF.out).mono ?_
  rintro e w3 ⟨h1, L, rfl, ho, hL, hx⟩
  obtain ⟨w4, hw4⟩ : ∃ w4, w3.setCells W0 0 (stL h1 s) = w4 := ⟨_, rfl⟩
  have hst := Sit.start (w := w) rfl HXA.out HBA.out HRA.out hx (ho.apart hL) (by have := HRR.out; have := HG0.out; omega) (by have := HW0.out; omega) (by have := HW0.out; have := HG0.out; have := HRR.out; omega)
  rw [hw4] at hst
  have hu4 : Upd W0 w3 w4 := by rw [← hw4]; exact setCells_upd _ _ _ _
  have HGL : Hid (G0 < wa.heap.size) := Lib.hid (blk_lt HGA.out)
  have HG4 : Hid (w4.heap[G0]? = some (.cells #[.int .i64 g] 3 (0, 0))) := Lib.hid ((hu4.block G0 (by have := hx.size; have := HGL.out; omega) (fun e => by injection e; have := HG0.out; omega)).trans (hx.blk HGA.out))
  have HTH := Lib.hid hst.1
  have S4 := Lib.hid hst.2
  have HW4 := Lib.hid hw4
  clear ho hL hx hst hw4 hu4
  go_upto_region 4 with (refine wpList_store_row rfl 32 _ _ rfl W0 (stL h1 s) (stV h1 s) (by go_simp) (by go_simp) rfl HTH.out (by kernel_rfl) (stL_one _ _) HW4.out ?_)
  have q2 := st2 S4.out.box
  go_wp2_with fail
  clear q2
  go_loopw [41] (fun iv wr => ∃ m : Nat, m ≤ s.ps.length ∧ iv = .int .i64 m ∧ Sit w W0 R wa.heap.size wr h1 (s.dropK g m) ∧ wr.heap[G0]? = some (.cells #[.int .i64 g] 3 (0, 0))) (fun iv _ => s.ps.length - (intOf iv).toNat)
  case atStart => exact ⟨0, by omega, rfl, by have : s.dropK g 0 = s := rfl; rw [this]; exact S4.out, HG4.out⟩
  case round =>
    obtain ⟨m, hm, rfl, hsm, hgm⟩ := hrel
    have SM := Lib.hid hsm
    have HGM := Lib.hid hgm
    clear hsm hgm
    by_cases hlt : m < s.ps.length
    · obtain ⟨px, hp⟩ : ∃ px, s.ps[m]? = some px := ⟨_, List.getElem?_eq_getElem hlt⟩
      have hb8 := HK.out.buf px (List.mem_of_getElem? hp)
      have hrm := St.may_ring HI.out.may hp
      obtain ⟨hpk, hps1⟩ := St.dropK_get (g := g) hp
      have hdr := St.dropP_ring (g := g) hb8 hrm
      have hhr := Ri.holds_may hb8 hrm
      obtain ⟨pm, nx, r0, sq⟩ := px
      obtain ⟨b0, b1, b2, b3, b4, b5, b6, b7, hd, nn, rfl⟩ := Ri.open8 hb8
      obtain ⟨rr, hrr⟩ : ∃ rr, Ri.at' (Ri.head ⟨[b0, b1, b2, b3, b4, b5, b6, b7], hd, nn⟩).toNat ((Ri.list ⟨[b0, b1, b2, b3, b4, b5, b6, b7], hd, nn⟩).filter (· != g)) = rr := ⟨_, rfl⟩
      simp only at hdr
      rw [show Ri.at' hd.toNat ((Ri.list ⟨[b0, b1, b2, b3, b4, b5, b6, b7], hd, nn⟩).filter (· != g)) = rr from hrr] at hdr
      obtain ⟨sm, hsm⟩ : ∃ sm, s.dropK g m = sm := ⟨_, rfl⟩
      have HPK : Hid (sm.ps[m]? = some ⟨pm, nx, ⟨[b0, b1, b2, b3, b4, b5, b6, b7], hd, nn⟩, sq⟩) := Lib.hid (by rw [← hsm]; exact hpk)
      have HSN : Hid (∀ nx', (if nx = g then 0 else nx) = nx' → s.dropK g (m + 1) = { sm with ps := sm.ps.set m ⟨pm, nx', rr, sq⟩ }) := Lib.hid (fun nx' hnx => by
        have e : St.dropP g ⟨pm, nx, ⟨[b0, b1, b2, b3, b4, b5, b6, b7], hd, nn⟩, sq⟩ = ⟨pm, nx', rr, sq⟩ := by unfold St.dropP; simp only; rw [hnx]; congr 1
        rw [← e, ← hsm, ← hps1]
        rfl)
      have HSL : Hid (sm.ps.length = s.ps.length) := Lib.hid (by rw [← hsm]; exact St.dropK_len)
      have HDR := Lib.hid hdr
      have HHR := Lib.hid hhr
      rw [hsm] at SM
      obtain ⟨bq, hqa, hqB, hqr⟩ := SM.out.getP HPK.out
      have HQA := Lib.hid hqa
      have q2 : wr.cell? ⟨W0, 2, none⟩ = some (.slice (some ⟨bq, 0, none⟩) s.ps.length h1.qc) := by rw [← hqa, ← HSL.out]; exact st2 SM.out.box
      have c1 : wr.cell? ⟨bq, m * 13 + 1, none⟩ = some (.int .i64 nx) := hqr 1 _ rfl
      have qg := blk_cell HGM.out 0 _ rfl
      have e1 : (m : Int) < (s.ps.length : Int) := by omega
      have e2 : (m : Int) < 100000 := by have := HF.out.ps; omega
      clear hp hb8 hrm hpk hps1 hdr hhr hrr hsm hqa hqB hqr
      go_upto_region 8 with fail
      clear q2
      have HBQ : Hid (wa.heap.size ≤ bq) := Lib.hid (by obtain ⟨g', h1', h2', _⟩ := SM.out.getP HPK.out; rw [HQA.out] at h1'; simp only [Option.some.injEq, Addr.mk.injEq, and_true] at h1'; omega)
      by_cases hng : nx = g
      · have hc : (nx == g) = true := by simpa using hng
        have HSN2 : Hid (s.dropK g (m + 1) = { { sm with ps := sm.ps.set m ⟨pm, 0, ⟨[b0, b1, b2, b3, b4, b5, b6, b7], hd, nn⟩, sq⟩ } with ps := (sm.ps.set m ⟨pm, 0, ⟨[b0, b1, b2, b3, b4, b5, b6, b7], hd, nn⟩, sq⟩).set m ⟨pm, 0, rr, sq⟩ }) := Lib.hid (by rw [List.set_set]; exact HSN.out 0 (by rw [if_pos hng]))
        have HP5 : Hid (({ sm with ps := sm.ps.set m ⟨pm, 0, ⟨[b0, b1, b2, b3, b4, b5, b6, b7], hd, nn⟩, sq⟩ } : St).ps[m]? = some ⟨pm, 0, ⟨[b0, b1, b2, b3, b4, b5, b6, b7], hd, nn⟩, sq⟩) := Lib.hid (List.getElem?_set_self (List.getElem?_eq_some_iff.1 HPK.out).1)
        clear hng
        go_quiet (fail)
        obtain ⟨wz, hwz⟩ : ∃ wz, wr.drewN nq = wz := ⟨_, rfl⟩
        rw [hwz]
        have hxz : Ext wr wz := by rw [← hwz]; exact (Ext.refl wr).drewN _
        have hsz := (SM.out.more hxz).setP' HPK.out HQA.out (x' := ⟨pm, 0, ⟨[b0, b1, b2, b3, b4, b5, b6, b7], hd, nn⟩, sq⟩) (j := 1) (ds := [.int .i64 0]) (by show 2 ≤ 13; omega) (pL_next ⟨pm, nx, ⟨[b0, b1, b2, b3, b4, b5, b6, b7], hd, nn⟩, sq⟩ 0)
        have c2 : wz.cell? ⟨bq, m * 13 + 1, none⟩ = some (.int .i64 nx) := ((SM.out.more hxz).getP' HPK.out HQA.out) 1 _ rfl
        have f1 := (hsz.1 0 (by simp)).2
        rw [Nat.add_zero] at f1
        obtain ⟨w5, hw5⟩ : ∃ w5, wz.setCell ⟨bq, m * 13 + 1, none⟩ (.int .i64 0) = w5 := ⟨_, rfl⟩
        have S5 : Hid (Sit w W0 R wa.heap.size w5 h1 { sm with ps := sm.ps.set m ⟨pm, 0, ⟨[b0, b1, b2, b3, b4, b5, b6, b7], hd, nn⟩, sq⟩ }) := Lib.hid (by rw [← hw5]; exact hsz.2)
        have HG5 : Hid (w5.heap[G0]? = some (.cells #[.int .i64 g] 3 (0, 0))) := Lib.hid (by rw [← hw5]; exact blk_set_other (hxz.blk HGM.out) _ (by have := HBQ.out; have := HGL.out; simp only; omega) _)
        have HW5 := Lib.hid hw5
        clear c1 qg hc hwz hxz hsz hw5
        go_upto_region 10 with (rw [HW5.out])
        clear c2 f1
        have HGR : Hid (w5.heap[G0]? = some (.cells #[.int .i64 g] 3 (0, 0))) := Lib.hid HG5.out
        obtain ⟨rvv, hrvv⟩ : ∃ rvv, Value.agg (rL rr).toArray = rvv := ⟨_, rfl⟩
        have HRVV := Lib.hid hrvv
        have HRR8 : Hid (rr.buf.length = 8) := Lib.hid (Ri.holds_len HDR.out.1)
        clear hrvv
        go_wp2_with fail
        refine region_g 9 (fun v => Ext w5 v) (fun v => Ext w5 v) (by kernel_rfl) (Ext.refl _).drew ?_
        have HG : ∀ (l : Array Bool) v, Ext w5 v → l.getD 9 false = false → Ext w5 v := fun _ _ h _ => h
        have K0 : ∀ v, Ext w5 v → v.cell? ⟨G0, 0, none⟩ = some (.int .i64 g) := fun v hv => blk_cell (hv.blk HGR.out) 0 _ rfl
        refine g_take (HG _) (i := 0) (v := ?_) rfl (by kernel_rfl) (by kernel_rfl) (by kernel_rfl) (by kernel_rfl) (by kernel_rfl) (fun _ _ _ h => h) (Still.yes (by kernel_rfl) fun w hS => ?_) ?_
        rotate_left 1
        · skip
          go_simp
          refine gives_mk ?_ rfl
          with_reducible rfl
        refine g_take (HG _) (i := 1) (v := ?_) rfl (by kernel_rfl) (by kernel_rfl) (by kernel_rfl) (by kernel_rfl) (by kernel_rfl) (fun _ _ _ h => h) (Still.yes (by kernel_rfl) fun w hS => ?_) ?_
        rotate_left 1
        · skip
          go_simp
          refine gives_mk ?_ rfl
          with_reducible rfl
        refine g_take (HG _) (i := 2) (v := ?_) rfl (by kernel_rfl) (by kernel_rfl) (by kernel_rfl) (by kernel_rfl) (by kernel_rfl) (fun _ _ _ h => h) (Still.yes (by kernel_rfl) fun w hS => ?_) ?_
        rotate_left 1
        · skip
          go_simp
          refine gives_mk ?_ rfl
          with_reducible rfl
        refine g_take (HG _) (i := 3) (v := ?_) rfl (by kernel_rfl) (by kernel_rfl) (by kernel_rfl) (by kernel_rfl) (by kernel_rfl) (fun _ _ _ h => h) (Still.yes (by kernel_rfl) fun w hS => ?_) ?_
        rotate_left 1
        · skip
          go_simp
          refine gives_mk ?_ rfl
          with_reducible rfl
        refine g_take (HG _) (i := 4) (v := .agg #[.int .i64 b0, .int .i64 b1, .int .i64 b2, .int .i64 b3, .int .i64 b4, .int .i64 b5, .int .i64 b6, .int .i64 b7, .int .i64 hd, .int .i64 nn]) rfl (by kernel_rfl) (by kernel_rfl) (by kernel_rfl) (by kernel_rfl) (by kernel_rfl) (fun _ _ _ h => h) (Still.yes (by kernel_rfl) fun w hS => ?_) ?_
        · exact givesV_PY (givesP_loadM 38 _ rfl bq (m * 13 + 2) (by go_simp) (rL ⟨[b0, b1, b2, b3, b4, b5, b6, b7], hd, nn⟩) _ rfl _ (range_ring ((S5.out.more hS).getP' HP5.out HQA.out)) Try.underlying38 rfl (by kernel_rfl))
        refine g_take (HG _) (i := 5) (v := ?_) rfl (by kernel_rfl) (by kernel_rfl) (by kernel_rfl) (by kernel_rfl) (by kernel_rfl) (fun _ _ _ h => h) (Still.yes (by kernel_rfl) fun w hS => ?_) ?_
        rotate_left 1
        · have c0 := K0 w hS
          go_simp
          refine gives_mk ?_ rfl
          with_reducible rfl
        refine g_turn (fun u w => u = rvv ∧ Ext w5 w) (k := 6) (by kernel_rfl) (fun _ _ h _ => h.2) (fun v hv => ?_)
        refine at_call (S := fun _ => True) rfl (by kernel_rfl) (by go_simp) ((fwithout_any b0 b1 b2 b3 b4 b5 b6 b7 hd nn g _ HHR.out v).mono ?_) ?_
        · rintro e w' ⟨r', rfl, hh', hd', hx⟩
          obtain rfl := Ri.holds_same hh' HDR.out.1 (hd'.trans HDR.out.2.symm)
          exact ⟨_, rfl, HRVV.out, hv.trans hx⟩
        rintro u ⟨_, rfl, _⟩
        refine g_take (fun _ h _ => h.2) (i := 7) (v := ?_) rfl (by kernel_rfl) (by kernel_rfl) (by kernel_rfl) (by kernel_rfl) (by kernel_rfl) (fun _ _ _ h => h) (Still.yes (by kernel_rfl) fun w hS => ?_) ?_
        rotate_left 1
        · go_simp
          refine gives_mk ?_ rfl
          with_reducible rfl
        refine g_take (fun _ h _ => h.2) (i := 8) (v := ?_) rfl (by kernel_rfl) (by kernel_rfl) (by kernel_rfl) (by kernel_rfl) (by kernel_rfl) (fun _ _ _ h => h) (Still.yes (by kernel_rfl) fun w hS => ?_) ?_
        rotate_left 1
        · go_simp
          refine gives_mk ?_ rfl
          with_reducible rfl
        refine g_turn (fun _ w' => Sit w W0 R wa.heap.size w' h1 { ({ sm with ps := sm.ps.set m ⟨pm, 0, ⟨[b0, b1, b2, b3, b4, b5, b6, b7], hd, nn⟩, sq⟩ } : St) with ps := (({ sm with ps := sm.ps.set m ⟨pm, 0, ⟨[b0, b1, b2, b3, b4, b5, b6, b7], hd, nn⟩, sq⟩ } : St)).ps.set m ⟨pm, 0, rr, sq⟩ } ∧ w'.heap[G0]? = some (.cells #[.int .i64 g] 3 (0, 0))) (k := 9) (by kernel_rfl) (fun _ _ _ hz => absurd hz (by decide +kernel)) (fun v hv => ?_)
        refine at_skip rfl (by kernel_rfl) ?_ ?_
        · have hst := (S5.out.more hv.2).setP' HP5.out HQA.out (x' := ⟨pm, 0, rr, sq⟩) (j := 2) (ds := rL rr) (by rw [rL_len HRR8.out]; decide) (pL_ring (x := ⟨pm, 0, ⟨[b0, b1, b2, b3, b4, b5, b6, b7], hd, nn⟩, sq⟩) rfl HRR8.out)
          have hu := setCells_upd bq (rL rr) v (m * 13 + 2)
          exact ⟨_, skip_storeY 38 _ _ rfl bq (m * 13 + 2) (by go_simp) (rL rr) (by go_simp; exact HRVV.out.symm) hst.1 (by rw [rL_len HRR8.out]; kernel_rfl) (rL_one _), hst.2, (hu.block G0 (by have := hv.2.size; have := blk_lt HGR.out; omega) (fun e => by injection e; have := HBQ.out; have := HGL.out; omega)).trans (hv.2.blk HGR.out)⟩
        refine g_done (by kernel_rfl) ?_ _
        rintro w9 ⟨hst, hgb⟩
        have NS : Hid (Sit w W0 R wa.heap.size w9 h1 (s.dropK g (m + 1))) := Lib.hid (by rw [HSN2.out]; exact hst)
        have NG := Lib.hid hgb
        clear hst hgb HG K0
        go_simp
        go_wp2
        go_roundw
        case rel => exact ⟨m + 1, by omega, by go_num, NS.out, NG.out⟩
        case measure => simp [intOf]; omega
      · have hc : (nx == g) = false := by simpa using hng
        have HSN2 : Hid (s.dropK g (m + 1) = { sm with ps := sm.ps.set m ⟨pm, nx, rr, sq⟩ }) := Lib.hid (HSN.out nx (by rw [if_neg hng]))
        clear hng
        go_quiet (fail)
        obtain ⟨wz, hwz⟩ : ∃ wz, wr.drewN nq = wz := ⟨_, rfl⟩
        rw [hwz]
        have hxz : Ext wr wz := by rw [← hwz]; exact (Ext.refl wr).drewN _
        have S5 := Lib.hid (SM.out.more hxz)
        have HG5 := Lib.hid (hxz.blk HGM.out)
        clear c1 qg hc hwz hxz
        go_upto_region 10 with fail
        have HGR : Hid (wz.heap[G0]? = some (.cells #[.int .i64 g] 3 (0, 0))) := Lib.hid HG5.out
        obtain ⟨rvv, hrvv⟩ : ∃ rvv, Value.agg (rL rr).toArray = rvv := ⟨_, rfl⟩
        have HRVV := Lib.hid hrvv
        have HRR8 : Hid (rr.buf.length = 8) := Lib.hid (Ri.holds_len HDR.out.1)
        clear hrvv
        go_wp2_with fail
        refine region_g 9 (fun v => Ext wz v) (fun v => Ext wz v) (by kernel_rfl) (Ext.refl _).drew ?_
        have HG : ∀ (l : Array Bool) v, Ext wz v → l.getD 9 false = false → Ext wz v := fun _ _ h _ => h
        have K0 : ∀ v, Ext wz v → v.cell? ⟨G0, 0, none⟩ = some (.int .i64 g) := fun v hv => blk_cell (hv.blk HGR.out) 0 _ rfl
        refine g_take (HG _) (i := 0) (v := ?_) rfl (by kernel_rfl) (by kernel_rfl) (by kernel_rfl) (by kernel_rfl) (by kernel_rfl) (fun _ _ _ h => h) (Still.yes (by kernel_rfl) fun w hS => ?_) ?_
        rotate_left 1
        · skip
          go_simp
          refine gives_mk ?_ rfl
          with_reducible rfl
        refine g_take (HG _) (i := 1) (v := ?_) rfl (by kernel_rfl) (by kernel_rfl) (by kernel_rfl) (by kernel_rfl) (by kernel_rfl) (fun _ _ _ h => h) (Still.yes (by kernel_rfl) fun w hS => ?_) ?_
        rotate_left 1
        · skip
          go_simp
          refine gives_mk ?_ rfl
          with_reducible rfl
        refine g_take (HG _) (i := 2) (v := ?_) rfl (by kernel_rfl) (by kernel_rfl) (by kernel_rfl) (by kernel_rfl) (by kernel_rfl) (fun _ _ _ h => h) (Still.yes (by kernel_rfl) fun w hS => ?_) ?_
        rotate_left 1
        · skip
          go_simp
          refine gives_mk ?_ rfl
          with_reducible rfl
        refine g_take (HG _) (i := 3) (v := ?_) rfl (by kernel_rfl) (by kernel_rfl) (by kernel_rfl) (by kernel_rfl) (by kernel_rfl) (fun _ _ _ h => h) (Still.yes (by kernel_rfl) fun w hS => ?_) ?_
        rotate_left 1
        · skip
          go_simp
          refine gives_mk ?_ rfl
          with_reducible rfl
        refine g_take (HG _) (i := 4) (v := .agg #[.int .i64 b0, .int .i64 b1, .int .i64 b2, .int .i64 b3, .int .i64 b4, .int .i64 b5, .int .i64 b6, .int .i64 b7, .int .i64 hd, .int .i64 nn]) rfl (by kernel_rfl) (by kernel_rfl) (by kernel_rfl) (by kernel_rfl) (by kernel_rfl) (fun _ _ _ h => h) (Still.yes (by kernel_rfl) fun w hS => ?_) ?_
        · exact givesV_PY (givesP_loadM 38 _ rfl bq (m * 13 + 2) (by go_simp) (rL ⟨[b0, b1, b2, b3, b4, b5, b6, b7], hd, nn⟩) _ rfl _ (range_ring ((S5.out.more hS).getP' HPK.out HQA.out)) Try.underlying38 rfl (by kernel_rfl))
        refine g_take (HG _) (i := 5) (v := ?_) rfl (by kernel_rfl) (by kernel_rfl) (by kernel_rfl) (by kernel_rfl) (by kernel_rfl) (fun _ _ _ h => h) (Still.yes (by kernel_rfl) fun w hS => ?_) ?_
        rotate_left 1
        · have c0 := K0 w hS
          go_simp
          refine gives_mk ?_ rfl
          with_reducible rfl
        refine g_turn (fun u w => u = rvv ∧ Ext wz w) (k := 6) (by kernel_rfl) (fun _ _ h _ => h.2) (fun v hv => ?_)
        refine at_call (S := fun _ => True) rfl (by kernel_rfl) (by go_simp) ((fwithout_any b0 b1 b2 b3 b4 b5 b6 b7 hd nn g _ HHR.out v).mono ?_) ?_
        · rintro e w' ⟨r', rfl, hh', hd', hx⟩
          obtain rfl := Ri.holds_same hh' HDR.out.1 (hd'.trans HDR.out.2.symm)
          exact ⟨_, rfl, HRVV.out, hv.trans hx⟩
        rintro u ⟨_, rfl, _⟩
        refine g_take (fun _ h _ => h.2) (i := 7) (v := ?_) rfl (by kernel_rfl) (by kernel_rfl) (by kernel_rfl) (by kernel_rfl) (by kernel_rfl) (fun _ _ _ h => h) (Still.yes (by kernel_rfl) fun w hS => ?_) ?_
        rotate_left 1
        · go_simp
          refine gives_mk ?_ rfl
          with_reducible rfl
        refine g_take (fun _ h _ => h.2) (i := 8) (v := ?_) rfl (by kernel_rfl) (by kernel_rfl) (by kernel_rfl) (by kernel_rfl) (by kernel_rfl) (fun _ _ _ h => h) (Still.yes (by kernel_rfl) fun w hS => ?_) ?_
        rotate_left 1
        · go_simp
          refine gives_mk ?_ rfl
          with_reducible rfl
        refine g_turn (fun _ w' => Sit w W0 R wa.heap.size w' h1 { sm with ps := (sm).ps.set m ⟨pm, nx, rr, sq⟩ } ∧ w'.heap[G0]? = some (.cells #[.int .i64 g] 3 (0, 0))) (k := 9) (by kernel_rfl) (fun _ _ _ hz => absurd hz (by decide +kernel)) (fun v hv => ?_)
        refine at_skip rfl (by kernel_rfl) ?_ ?_
        · have hst := (S5.out.more hv.2).setP' HPK.out HQA.out (x' := ⟨pm, nx, rr, sq⟩) (j := 2) (ds := rL rr) (by rw [rL_len HRR8.out]; decide) (pL_ring (x := ⟨pm, nx, ⟨[b0, b1, b2, b3, b4, b5, b6, b7], hd, nn⟩, sq⟩) rfl HRR8.out)
          have hu := setCells_upd bq (rL rr) v (m * 13 + 2)
          exact ⟨_, skip_storeY 38 _ _ rfl bq (m * 13 + 2) (by go_simp) (rL rr) (by go_simp; exact HRVV.out.symm) hst.1 (by rw [rL_len HRR8.out]; kernel_rfl) (rL_one _), hst.2, (hu.block G0 (by have := hv.2.size; have := blk_lt HGR.out; omega) (fun e => by injection e; have := HBQ.out; have := HGL.out; omega)).trans (hv.2.blk HGR.out)⟩
        refine g_done (by kernel_rfl) ?_ _
        rintro w9 ⟨hst, hgb⟩
        have NS : Hid (Sit w W0 R wa.heap.size w9 h1 (s.dropK g (m + 1))) := Lib.hid (by rw [HSN2.out]; exact hst)
        have NG := Lib.hid hgb
        clear hst hgb HG K0
        go_simp
        go_wp2
        go_roundw
        case rel => exact ⟨m + 1, by omega, by go_num, NS.out, NG.out⟩
        case measure => simp [intOf]; omega
    · obtain rfl : m = s.ps.length := by omega
      have e0 : s.dropK g s.ps.length = { s with ps := s.ps.map (St.dropP g) } := by unfold St.dropK; rw [List.take_length, List.drop_length, List.append_nil]
      have SM2 : Hid (Sit w W0 R wa.heap.size wr h1 { s with ps := s.ps.map (St.dropP g) }) := Lib.hid (by rw [← e0]; exact SM.out)
      clear e0 SM
      obtain ⟨I4, ha4⟩ := SM2.out.ap
      have hl4 := ha4.low 4 (by omega)
      have q4 : wr.cell? ⟨W0, 4, none⟩ = some (.slice h1.la s.glob.length h1.lc) := by have := st4 SM2.out.box; exact this
      have qg := blk_cell HGM.out 0 _ rfl
      have HD := Lib.hid (fdel_any h1.la h1.lc s.glob g G0 (I4 4).1 wr (ints_rows.1 ha4.glob.1) (by have := HF.out.glob; omega) qg (by have := HGL.out; omega) (by omega))
      have HA4 := Lib.hid ha4
      clear ha4 hl4
      go_wp2_with fail
      refine HD.out.mono ?_
      rintro e wc ⟨rfl, ho', hb⟩
      obtain ⟨sd, hsd⟩ : ∃ sd, s.drop1 g = sd := ⟨_, rfl⟩
      have hst := SM2.out.glob HA4.out (l := s.glob.filter (fun x => x != g)) rfl (ints_rows.2 ho') (.inl (own_len _ _ _ _ _)) hb
      obtain ⟨wd, hwd⟩ : ∃ wd, wc.setCell ⟨W0, 4, none⟩ (.slice h1.la (s.glob.filter (fun x => x != g)).length h1.lc) = wd := ⟨_, rfl⟩
      have r0 : wc.cell? ⟨W0, 4, none⟩ = some (.slice h1.la s.glob.length h1.lc) := hst.1
      have r1 := hst.2.1
      have HSD : Hid (Sit w W0 R wa.heap.size wd h1 sd) := Lib.hid (by rw [← hsd, ← hwd]; exact hst.2.2)
      have hgc : wc.heap[G0]? = some (.cells #[.int .i64 g] 3 (0, 0)) := hb.blk HGM.out (fun e => by
        have h1 := (World.ownsRow.lt HA4.out.glob.1 G0 e).1
        have h2 := (HA4.out.low 4 (by omega)).1
        have := HGL.out
        omega)
      have qg2 : wd.cell? ⟨G0, 0, none⟩ = some (.int .i64 g) := by rw [← hwd]; exact blk_cell (blk_set_other hgc _ (by have := HG0.out; simp only; omega) _) 0 _ rfl
      have HWD := Lib.hid hwd
      have HDD := Lib.hid hsd
      have HL5 : Hid (sd.gs = s.gs ∧ sd.ms = s.ms ∧ sd.ps[i]? = some (St.dropP g x)) := Lib.hid (by rw [← hsd]; exact ⟨rfl, rfl, by show (s.ps.map _)[i]? = _; rw [List.getElem?_map, HI.out.at_]; rfl⟩)
      have HGD : Hid (StGood sd) := Lib.hid (by
        rw [← hsd]
        refine St.drop1_good HSG.out (fun p hp => ?_) g
        obtain ⟨n, hn⟩ := List.mem_iff_getElem?.1 hp
        exact St.may_ring HI.out.may hn)
      have HSQ : Hid (0 ≤ y.seq ∧ y.seq < 4611686018427387904) := Lib.hid (by have := St.may_seq HI.out.may HY.out; omega)
      have HXM : Hid ((St.dropP g x).m = (j : Int) + 1) := Lib.hid HI.out.m
      clear ho' hb hst hgc hwd hsd q4 qg
      go_upto_region 13 with (rw [HWD.out])
      clear r0 r1
      obtain ⟨C, hC⟩ : ∃ C, stL h1 sd = C := ⟨_, rfl⟩
      have HCC := Lib.hid hC
      have S5 : Hid (SitC w W0 R wa.heap.size wd C h1 sd) := Lib.hid (by rw [← hC]; exact SitC.of HSD.out)
      clear hC
      go_wp2_with fail
      clear qg2
      have HRUN := Lib.hid (frun_any W0 R wa.heap.size i j k C h1 sd (St.dropP g x) y ((i : Int) + 1, 0) w wd S5.out (by rw [← HCC.out]; exact ⟨rfl, rfl, rfl⟩) HL5.out.2.2 HXM.out (by rw [HL5.out.2.1]; exact HI.out.hm) (by rw [HL5.out.1]; exact HY.out) HSQ.out HGD.out.few)
      rw [← HGK.out] at HRUN
      refine HRUN.out.mono ?_
      rintro e w6 ⟨rfl, hs6⟩
      have S6 := Lib.hid hs6
      clear hs6 HRUN
      have HCL : Hid (C.length = 16) := Lib.hid (by rw [← HCC.out]; rfl)
      have HSZ : Hid ((Try.prog.info? 32).map (·.size) = some C.length) := Lib.hid (by rw [HCL.out]; kernel_rfl)
      have HC1 : Hid (∀ u ∈ C, u.oneCell' = true) := Lib.hid (by rw [← HCC.out]; exact stL_one _ _)
      obtain ⟨cv, hcv⟩ : ∃ cv, Value.agg C.toArray = cv := ⟨_, rfl⟩
      have HCV := Lib.hid hcv
      obtain ⟨wf, hwf⟩ : ∃ wf, w6.setCells R 0 C = wf := ⟨_, rfl⟩
      have hfi := S6.out.fin HCL.out
      rw [hwf] at hfi
      have HFI := Lib.hid hfi
      have HWF := Lib.hid hwf
      clear hcv hwf hfi
      go_wp2_with (first | (refine wpList_load_rowM (by rfl) 32 _ rfl W0 0 (by go_simp) C cv HCV.out.symm _ (range_row S6.out.box) Try.underlying32 rfl HSZ.out ?_) | (refine wpList_store_rowM rfl 32 _ _ rfl R 0 C cv (by go_simp) (by go_simp) HCV.out.symm HFI.out.2.1 HSZ.out HC1.out HWF.out ?_))
      refine bodyPost_cell_tmp rfl R _ _ _ _ rfl HFI.out.1 Try.underlying32 rfl (by rw [List.size_toArray]; exact HSZ.out) (.int .i64 0) rfl rfl ?_
      rw [HPQ.out]
      refine .inr ⟨i, j, k, x, y, h1, rfl, HGK.out, HI.out, HY.out, HST.out, ?_, ?_, HFI.out.2.2.2⟩
      · rw [← HCC.out, HDD.out, ← stL_run h1 sd ((i : Int) + 1) g]
        rfl
      · obtain ⟨I, hI⟩ := HFI.out.2.2.1
        rw [HDD.out]
        exact hI.ok HGD.out.buf
def tp0 : Pr := ⟨1, 0, ⟨[0, 0, 0, 0, 0, 0, 0, 0], 0, 0⟩, 0⟩
def tp1 : Pr := ⟨0, 0, ⟨[1, 2, 3, 0, 0, 0, 0, 0], 0, 3⟩, 0⟩
def twoS : St := ⟨[[(0, 0)]], [⟨0, 0, 1, 0, 0⟩, ⟨0, 0, 1, 0, 0⟩, ⟨0, 0, 1, 0, 0⟩], tp0 :: tp1 :: List.replicate 6 nilPr, [(1, 0)], [], 0, 0, 0, 0, [], [], [], [], [], 0, 2⟩
theorem two_new : St.new [[(0, 0)]] 2 = (St.made [[(0, 0)]] 2, 0) := St.new_yes (by decide +kernel)
theorem two_at : Ri.at' 0 [1, 2, 3] = ⟨[1, 2, 3, 0, 0, 0, 0, 0], 0, 3⟩ := by kernel_rfl
theorem own_three (v : World) : OwnInts (v.alloc (.cells #[.int .i64 1, .int .i64 2, .int .i64 3] 3)) v.heap.size (.slice (some ⟨v.heap.size, 0, none⟩) 3 3) [1, 2, 3] := ⟨rfl, .inr ⟨v.heap.size, 3, _, rfl, Nat.le_refl _, blk_new v _, Nat.le_refl _, by decide, rfl, rfl⟩⟩
structure TwK (B1 q0 g0 m0 : Nat) (h : StH) (w : World) : Prop where
  box : w.heap[B1]? = some (.cells (stC h twoS) 32 (0, 0))
  ps : ∃ x : Pr, OwnRows 40 13 pL w q0 (.slice (some ⟨q0, 0, none⟩) 8 8) (tp0 :: x :: List.replicate 6 nilPr)
  gs : w.heap[g0]? = some (.cells #[.int .i64 0, .int .i64 0, .int .i64 1, .int .i64 0, .int .i64 0, .int .i64 0, .int .i64 0, .int .i64 1, .int .i64 0, .int .i64 0, .int .i64 0, .int .i64 0, .int .i64 1, .int .i64 0, .int .i64 0] 55 (0, 0))
  ms : w.heap[m0]? = some (.cells #[.int .i64 1, .int .i64 0] 57 (0, 0))
  lt : B1 < q0 ∧ m0 < q0 ∧ g0 < q0
theorem TwK.low {B1 q0 g0 m0 M : Nat} {h : StH} {w w2 : World} (k : TwK B1 q0 g0 m0 h w) (hl : LowSame M w w2) (hg : q0 < M) : TwK B1 q0 g0 m0 h w2 := by
  obtain ⟨x, h1⟩ := k.ps
  have hlt := k.lt
  exact ⟨(hl B1 (by omega)).trans k.box, ⟨x, h1.lowM hl fun b hb => by cases hb; exact hg⟩, (hl g0 (by omega)).trans k.gs, (hl m0 (by omega)).trans k.ms, k.lt⟩
set_option maxRecDepth 100000 in
set_option maxHeartbeats 16000000 in
theorem two_any (w : World) : Calls Try.prog 83 #[] w fun e w' => ∃ h, e = .returned (stV h twoS) ∧ StOk w' h twoS ∧ Ext w w' := by
  obtain ⟨R, hR⟩ : ∃ R, w.heap.size = R := ⟨_, rfl⟩
  obtain ⟨w0, hw0⟩ : ∃ w0, w.alloc (.cells #[.slice none 0 0, .slice none 0 0, .slice none 0 0, .slice none 0 0, .slice none 0 0, .int .i64 0, .int .i64 0, .int .i64 0, .int .i64 0, .slice none 0 0, .slice none 0 0, .slice none 0 0, .slice none 0 0, .slice none 0 0, .int .i64 0, .int .i64 0] 32) = w0 := ⟨_, rfl⟩
  obtain ⟨w1, hw1⟩ : ∃ w1, w0.alloc (.cells #[.int .i64 0, .int .i64 0] 68) = w1 := ⟨_, rfl⟩
  obtain ⟨w2, hw2⟩ : ∃ w2, w1.alloc (.cells #[.slice (some ⟨w0.heap.size, 0, none⟩) 1 1] 69) = w2 := ⟨_, rfl⟩
  have hx0 : Ext w w0 := by rw [← hw0]; exact (Ext.refl w).alloc _
  have hx1 : Ext w0 w1 := by rw [← hw1]; exact (Ext.refl w0).alloc _
  have hx2 : Ext w1 w2 := by rw [← hw2]; exact (Ext.refl w1).alloc _
  have hr0 : w0.heap[R]? = some (.cells #[.slice none 0 0, .slice none 0 0, .slice none 0 0, .slice none 0 0, .slice none 0 0, .int .i64 0, .int .i64 0, .int .i64 0, .int .i64 0, .slice none 0 0, .slice none 0 0, .slice none 0 0, .slice none 0 0, .slice none 0 0, .int .i64 0, .int .i64 0] 32 (0, 0)) := by rw [← hw0, ← hR]; exact blk_new w _
  have hb1 : w1.heap[w0.heap.size]? = some (.cells #[.int .i64 0, .int .i64 0] 68 (0, 0)) := by rw [← hw1]; exact blk_new w0 _
  have hb2 : w2.heap[w1.heap.size]? = some (.cells #[.slice (some ⟨w0.heap.size, 0, none⟩) 1 1] 69 (0, 0)) := by rw [← hw2]; exact blk_new w1 _
  have key : ∀ v : World, v.heap[w0.heap.size]? = some (.cells #[.int .i64 0, .int .i64 0] 68 (0, 0)) → v.heap[w1.heap.size]? = some (.cells #[.slice (some ⟨w0.heap.size, 0, none⟩) 1 1] 69 (0, 0)) → NestAt 2 pairL v (.slice (some ⟨w1.heap.size, 0, none⟩) 1 1) [[(0, 0)]] := fun v k1 k2 => nest_one k2 ⟨_, _, rfl, Nat.le_refl 1, fun _ => ⟨w0.heap.size, 0, rfl, blk_lt k1, fun j x hj i u hu => by
    match j with
    | 0 =>
      simp at hj; subst hj
      refine blk_cell k1 _ _ ?_
      match i with
      | 0 | 1 => simp [pairL] at hu; subst hu; rfl
      | i + 2 => simp [pairL] at hu
    | j + 1 => simp at hj⟩⟩
  have KEY := Lib.hid key
  have HN1 := Lib.hid (rNew_pa _ [[(0, 0)]] 2 _ two_new w2 (key w2 (hx2.blk hb1) hb2) (by decide) (by decide))
  have HX2 : Hid (Ext w w2) := Lib.hid (hx0.trans (hx1.trans hx2))
  have HR2 := Lib.hid ((hx1.trans hx2).blk hr0)
  have HBI := Lib.hid (hx2.blk hb1)
  have HBP := Lib.hid hb2
  have HRL : Hid (R < w0.heap.size ∧ w0.heap.size < w1.heap.size) := Lib.hid ⟨blk_lt hr0, blk_lt hb1⟩
  have HW0 := Lib.hid hw0
  have HW1 := Lib.hid hw1
  have HW2 := Lib.hid hw2
  have HRR := Lib.hid hR
  clear hR hw0 hw1 hw2 hx0 hx1 hx2 hr0 hb1 hb2 key
  go_enter Try.func83, Try.ntmps83
  go_wp2_with (first | rw [HW0.out, HRR.out] | rw [HW0.out] | rw [HW1.out] | rw [HW2.out])
  refine HN1.out.mono ?_
  rintro e wa ⟨h1, rfl, hk1, hpa, hxa⟩
  simp only at hpa ⊢
  have hpa := hpa trivial
  obtain ⟨wb, wc, hwb, hwc, hth, hbc, hxc⟩ := st_box wa h1 (St.made [[(0, 0)]] 2)
  obtain ⟨B1, hB1⟩ : ∃ B1, wa.heap.size = B1 := ⟨_, rfl⟩
  rw [hB1] at hwc hth hbc
  obtain ⟨g0, hg0⟩ : ∃ g0, wc.heap.size = g0 := ⟨_, rfl⟩
  obtain ⟨wd, hwd⟩ : ∃ wd, wc.alloc (.cells #[.int .i64 0, .int .i64 0, .int .i64 1, .int .i64 0, .int .i64 0, .int .i64 0, .int .i64 0, .int .i64 1, .int .i64 0, .int .i64 0, .int .i64 0, .int .i64 0, .int .i64 1, .int .i64 0, .int .i64 0] 55) = wd := ⟨_, rfl⟩
  obtain ⟨we, hwe⟩ : ∃ we, wd.setCell ⟨B1, 1, none⟩ (.slice (some ⟨g0, 0, none⟩) 3 3) = we := ⟨_, rfl⟩
  obtain ⟨wf, hwf⟩ : ∃ wf, we.setCell ⟨B1, 4, none⟩ (.slice none 0 0) = wf := ⟨_, rfl⟩
  obtain ⟨m0, hm0⟩ : ∃ m0, wf.heap.size = m0 := ⟨_, rfl⟩
  obtain ⟨wg, hwg⟩ : ∃ wg, wf.alloc (.cells #[.int .i64 1, .int .i64 0] 57) = wg := ⟨_, rfl⟩
  obtain ⟨wh, hwh⟩ : ∃ wh, wg.setCell ⟨B1, 3, none⟩ (.slice (some ⟨m0, 0, none⟩) 1 1) = wh := ⟨_, rfl⟩
  obtain ⟨q0, hq0⟩ : ∃ q0, wh.heap.size = q0 := ⟨_, rfl⟩
  obtain ⟨wi, hwi⟩ : ∃ wi, wh.alloc (.cells (madeCells #[.int .i64 0, .int .i64 0, .int .i64 0, .int .i64 0, .int .i64 0, .int .i64 0, .int .i64 0, .int .i64 0, .int .i64 0, .int .i64 0, .int .i64 0, .int .i64 0, .int .i64 0] 104) 40) = wi := ⟨_, rfl⟩
  obtain ⟨wj, hwj⟩ : ∃ wj, wi.setCell ⟨B1, 2, none⟩ (.slice (some ⟨q0, 0, none⟩) 8 8) = wj := ⟨_, rfl⟩
  obtain ⟨wk, hwk⟩ : ∃ wk, wj.setCells q0 0 (pL tp0) = wk := ⟨_, rfl⟩
  have hB1c : B1 < g0 := by have := blk_lt hbc; omega
  have szd : wd.heap.size = g0 + 1 := by rw [← hwd, World.size_alloc, hg0]
  have bd : wd.heap[B1]? = some (.cells (stC h1 (St.made [[(0, 0)]] 2)) 32 (0, 0)) := by rw [← hwd]; exact blk_alloc hbc _
  have gd : wd.heap[g0]? = some (.cells #[.int .i64 0, .int .i64 0, .int .i64 1, .int .i64 0, .int .i64 0, .int .i64 0, .int .i64 0, .int .i64 1, .int .i64 0, .int .i64 0, .int .i64 0, .int .i64 0, .int .i64 1, .int .i64 0, .int .i64 0] 55 (0, 0)) := by rw [← hwd, ← hg0]; exact blk_new wc _
  have be : we.heap[B1]? = some (.cells (stC { h1 with ga := some ⟨g0, 0, none⟩, gc := 3 } { (St.made [[(0, 0)]] 2) with gs := twoS.gs }) 32 (0, 0)) := by rw [← hwe]; exact blk_set bd 1 (.slice (some ⟨g0, 0, none⟩) 3 3)
  have ge := blk_set_other gd ⟨B1, 1, none⟩ (by simp only; omega) (.slice (some ⟨g0, 0, none⟩) 3 3)
  rw [hwe] at ge
  have sze : we.heap.size = g0 + 1 := by rw [← hwe, ← szd]; simp [World.setCell]
  have bf : wf.heap[B1]? = some (.cells (stC { h1 with ga := some ⟨g0, 0, none⟩, gc := 3, la := none, lc := 0 } { (St.made [[(0, 0)]] 2) with gs := twoS.gs, glob := [] }) 32 (0, 0)) := by rw [← hwf]; exact blk_set be 4 (.slice none 0 0)
  have gf := blk_set_other ge ⟨B1, 4, none⟩ (by simp only; omega) (.slice none 0 0)
  rw [hwf] at gf
  have szf : wf.heap.size = g0 + 1 := by rw [← hwf, ← sze]; simp [World.setCell]
  have bg := blk_alloc bf (.cells #[.int .i64 1, .int .i64 0] 57)
  have gg := blk_alloc gf (.cells #[.int .i64 1, .int .i64 0] 57)
  have mg := blk_new wf (.cells #[.int .i64 1, .int .i64 0] 57)
  rw [hwg] at bg gg mg
  rw [hm0] at mg
  have szg : wg.heap.size = g0 + 2 := by rw [← hwg, World.size_alloc, szf]
  have bh : wh.heap[B1]? = some (.cells (stC { h1 with ga := some ⟨g0, 0, none⟩, gc := 3, la := none, lc := 0, ma := some ⟨m0, 0, none⟩, mc := 1 } { (St.made [[(0, 0)]] 2) with gs := twoS.gs, glob := [], ms := [(1, 0)] }) 32 (0, 0)) := by rw [← hwh]; exact blk_set bg 3 (.slice (some ⟨m0, 0, none⟩) 1 1)
  have gh := blk_set_other gg ⟨B1, 3, none⟩ (by simp only; omega) (.slice (some ⟨m0, 0, none⟩) 1 1)
  have mh := blk_set_other mg ⟨B1, 3, none⟩ (by simp only; omega) (.slice (some ⟨m0, 0, none⟩) 1 1)
  rw [hwh] at gh mh
  have szh : wh.heap.size = g0 + 2 := by rw [← hwh, ← szg]; simp [World.setCell]
  have bi := blk_alloc bh (.cells (madeCells #[.int .i64 0, .int .i64 0, .int .i64 0, .int .i64 0, .int .i64 0, .int .i64 0, .int .i64 0, .int .i64 0, .int .i64 0, .int .i64 0, .int .i64 0, .int .i64 0, .int .i64 0] 104) 40)
  have gi := blk_alloc gh (.cells (madeCells #[.int .i64 0, .int .i64 0, .int .i64 0, .int .i64 0, .int .i64 0, .int .i64 0, .int .i64 0, .int .i64 0, .int .i64 0, .int .i64 0, .int .i64 0, .int .i64 0, .int .i64 0] 104) 40)
  have mi := blk_alloc mh (.cells (madeCells #[.int .i64 0, .int .i64 0, .int .i64 0, .int .i64 0, .int .i64 0, .int .i64 0, .int .i64 0, .int .i64 0, .int .i64 0, .int .i64 0, .int .i64 0, .int .i64 0, .int .i64 0] 104) 40)
  have pi := ps_made wh
  rw [hwi] at bi gi mi pi
  rw [hq0] at pi
  have szi : wi.heap.size = g0 + 3 := by rw [← hwi, World.size_alloc, szh]
  have hq3 : q0 = g0 + 2 := by omega
  obtain ⟨hh, hhh⟩ : ∃ hh : StH, { h1 with ga := some ⟨g0, 0, none⟩, gc := 3, la := none, lc := 0, ma := some ⟨m0, 0, none⟩, mc := 1, qa := some ⟨q0, 0, none⟩, qc := 8 } = hh := ⟨_, rfl⟩
  have bj : wj.heap[B1]? = some (.cells (stC hh twoS) 32 (0, 0)) := by rw [← hwj, ← hhh]; exact blk_set bi 2 (.slice (some ⟨q0, 0, none⟩) 8 8)
  have gj := blk_set_other gi ⟨B1, 2, none⟩ (by simp only; omega) (.slice (some ⟨q0, 0, none⟩) 8 8)
  have mj := blk_set_other mi ⟨B1, 2, none⟩ (by simp only; omega) (.slice (some ⟨q0, 0, none⟩) 8 8)
  have uj : Upd B1 wi (wi.setCell ⟨B1, 2, none⟩ (.slice (some ⟨q0, 0, none⟩) 8 8)) := (Upd.refl B1 wi).set 2 _
  have pj := pi.updB uj (by omega)
  rw [hwj] at gj mj pj
  have szj : wj.heap.size = g0 + 3 := by rw [← hwj, ← szi]; simp [World.setCell]
  obtain ⟨g', c', e1, _, _, _, hth8, hown8, hu8⟩ := OwnRows.setCells pL_len pj (i := 0) (x := nilPr) (x' := tp0) rfl (j := 0) (ds := pL tp0) (by rw [pL_len]; decide) (fun t ht => by rw [if_pos (by rw [pL_len]; omega)]; rfl)
  simp only [Value.slice.injEq, Option.some.injEq, Addr.mk.injEq, and_true] at e1
  have e2 := e1.1
  clear e1
  subst e2
  have hth8' : wj.there q0 0 (pL tp0).length := hth8
  have hown9 : OwnRows 40 13 pL wk q0 (.slice (some ⟨q0, 0, none⟩) 8 8) (tp0 :: nilPr :: List.replicate 6 nilPr) := by rw [← hwk]; exact hown8
  have hu9 : Upd q0 wj wk := by rw [← hwk]; exact hu8
  have HTK : Hid (TwK B1 q0 g0 m0 hh wk) := Lib.hid ⟨(hu9.block B1 (by omega) (fun e => by injection e; omega)).trans bj, ⟨nilPr, hown9⟩, (hu9.block g0 (by omega) (fun e => by injection e; omega)).trans gj, (hu9.block m0 (by omega) (fun e => by injection e; omega)).trans mj, by omega⟩
  have hxk : Ext wa wk := by
    have x1 : Ext wa wd := by rw [← hwd]; exact hxc.alloc _
    have x2 : Ext wa we := by rw [← hwe]; exact x1.setCell (p := ⟨B1, 1, none⟩) (by simp only; omega) _
    have x3 : Ext wa wf := by rw [← hwf]; exact x2.setCell (p := ⟨B1, 4, none⟩) (by simp only; omega) _
    have x4 : Ext wa wg := by rw [← hwg]; exact x3.alloc _
    have x5 : Ext wa wh := by rw [← hwh]; exact x4.setCell (p := ⟨B1, 3, none⟩) (by simp only; omega) _
    have x6 : Ext wa wi := by rw [← hwi]; exact x5.alloc _
    have x7 : Ext wa wj := by rw [← hwj]; exact x6.setCell (p := ⟨B1, 2, none⟩) (by simp only; omega) _
    exact x7.upd hu9 (by omega)
  have HXK := Lib.hid hxk
  have HQM : Hid (q0 + 1 ≤ wk.heap.size ∧ wa.heap.size ≤ q0 ∧ B1 < q0 ∧ wa.heap.size ≤ B1 ∧ wa.heap.size ≤ g0 ∧ wa.heap.size ≤ m0) := Lib.hid ⟨by have := hu9.size; omega, by omega, by omega, by omega, by omega, by omega⟩
  have z1 : wd.cell? ⟨B1, 1, none⟩ = some (.slice h1.ga 1 h1.gc) := st1 bd
  have f1 := frozen_of_row _ _ 1 _ _ bd
  have z4 := st4 be
  have f4 := frozen_of_row _ _ 4 _ _ be
  have z3 := st3 bg
  have f3 := frozen_of_row _ _ 3 _ _ bg
  have z2 := st2 bi
  have f2 := frozen_of_row _ _ 2 _ _ bi
  have k2 : wj.cell? ⟨B1, 2, none⟩ = some (.slice (some ⟨q0, 0, none⟩) 8 8) := by have := st2 bj; rw [← hhh] at this; exact this
  obtain ⟨pv, hpv⟩ : ∃ pv, Value.agg (pL tp0).toArray = pv := ⟨_, rfl⟩
  have HPV := Lib.hid hpv
  have hpv' : Value.agg #[.int .i64 1, .int .i64 0, .int .i64 0, .int .i64 0, .int .i64 0, .int .i64 0, .int .i64 0, .int .i64 0, .int .i64 0, .int .i64 0, .int .i64 0, .int .i64 0, .int .i64 0] = pv := hpv
  have HPV' := Lib.hid hpv'
  have HT8 := Lib.hid hth8'
  have hmk := make_ps wh
  rw [hwi, hq0] at hmk
  have HWB := Lib.hid hwb
  have HB1 := Lib.hid hB1
  have HWC := Lib.hid hwc
  have HTHB := Lib.hid hth
  have HG0 := Lib.hid hg0
  have HWD := Lib.hid hwd
  have HWE := Lib.hid hwe
  have HWF := Lib.hid hwf
  have HM0 := Lib.hid hm0
  have HWG := Lib.hid hwg
  have HWH := Lib.hid hwh
  have HQ0 := Lib.hid hq0
  have HWI := Lib.hid hwi
  have HWJ := Lib.hid hwj
  have HWK := Lib.hid hwk
  have HXA := Lib.hid hxa
  have HPA := Lib.hid hpa
  have HHH := Lib.hid hhh
  clear hwb hwc hth hbc hxc hB1 hwd hg0 hwe hwf hm0 hwg hwh hq0 hwi hwj hwk hxa hpa hk1 hB1c szd bd gd be ge sze bf gf szf bg gg mg szg bh gh mh szh bi gi mi pi szi hq3 hhh bj gj mj uj pj szj hth8 hown8 hu8 hown9 hu9 hxk hpv hth8'
  go_upto_region 7 with (first | rw [HWB.out, HB1.out] | rw [HWD.out, HG0.out] | rw [HWE.out] | rw [HWF.out] | rw [HWG.out, HM0.out] | rw [HWH.out] | rw [HWI.out, HQ0.out] | rw [HWJ.out] | (refine wpList_store_row rfl 32 _ _ rfl B1 (stL h1 (St.made [[(0, 0)]] 2)) (stV h1 (St.made [[(0, 0)]] 2)) (by go_simp) (by go_simp) rfl HTHB.out (by kernel_rfl) (stL_one _ _) HWC.out ?_) | (refine wpList_store_rowM rfl 40 _ _ rfl q0 0 (pL tp0) pv (by go_simp) (by go_simp) HPV.out.symm HT8.out (by kernel_rfl) (pL_one _) HWK.out ?_))
  have hkk0 := HTK.out
  have hq1 : q0 < q0 + 1 := Nat.lt_succ_self _
  have hqz := HQM.out
  have hxk0 := HXK.out
  clear z1 f1 z4 f4 z3 f3 z2 f2 k2 hmk hpv'
  refine region_rgz ([(2, (fun u => ∃ b, u = .slice (some ⟨b, 0, none⟩) 3 3 : Value → Prop), (fun u w => OwnInts w (q0 + 1) (u 2).v [1, 2, 3] : (Nat → GV) → World → Prop)), (3, (fun u => u = .agg #[.int .i64 1, .int .i64 2, .int .i64 3, .int .i64 0, .int .i64 0, .int .i64 0, .int .i64 0, .int .i64 0, .int .i64 0, .int .i64 3] : Value → Prop), (fun _ _ => True : (Nat → GV) → World → Prop)), (6, (fun u => u = undef : Value → Prop), (fun u w => OwnRows 40 13 pL w q0 (.slice (some ⟨q0, 0, none⟩) 8 8) (tp0 :: tp1 :: List.replicate 6 nilPr) : (Nat → GV) → World → Prop))]) (wa) (q0 + 1) (q0) (6) (TwK B1 q0 g0 m0 hh) ([]) (by kernel_rfl) (by kernel_rfl) ?_ ?_ (by omega) (fun w w2 hl hk => by first | (obtain ⟨x, hx⟩ := hk; exact ⟨x, (hl _ (by omega)).trans hx⟩) | exact hk.low hl (by assumption)) ?_ ?_ ?_ ?_
  · exact List.forall_mem_nil _
  · exact List.forall_mem_cons.2 ⟨⟨⟨_, 0, rfl⟩, fun u v w h ht => by show (fun u w => OwnInts w (q0 + 1) (u 2).v [1, 2, 3] : (Nat → GV) → World → Prop) v w; dsimp only; rw [← h 2 (.inl rfl) (by kernel_rfl)]; exact ht, fun u w w2 hx ht => OwnInts.ext ht hx, List.forall_mem_nil _, fun _ u w w2 hz ht => OwnInts.updB ht hz (Nat.lt_succ_self _)⟩, List.forall_mem_cons.2 ⟨⟨⟨_, rfl⟩, fun _ _ _ _ _ => trivial, fun _ _ _ _ _ => trivial, List.forall_mem_nil _, fun _ _ _ _ _ _ => trivial⟩, List.forall_mem_cons.2 ⟨⟨⟨_, rfl⟩, fun _ _ _ _ ht => ht, fun u w w2 hx ht => OwnRows.ext ht hx, List.forall_mem_nil _, fun hne => absurd rfl hne⟩, List.forall_mem_nil _⟩⟩⟩
  · first | assumption | exact Ext.refl _
  · first | assumption | omega
  · assumption
  refine rg_pure (v := ?_) rfl (by kernel_rfl) (by kernel_rfl) (fun w hS hN => ?_) ?_
  rotate_left 1
  · obtain ⟨hS, hM, hK⟩ := hS
    clear hN
    go_simp
    refine givesP_mk ?_
    with_reducible rfl
  refine rg_pure (v := ?_) rfl (by kernel_rfl) (by kernel_rfl) (fun w hS hN => ?_) ?_
  rotate_left 1
  · obtain ⟨hS, hM, hK⟩ := hS
    have k2 : w.cell? ⟨B1, 2, none⟩ = some (.slice (some ⟨q0, 0, none⟩) 8 8) := by (have := st2 hK.box; rw [← HHH.out] at this; exact this)
    clear hN
    go_simp
    refine givesP_mk ?_
    with_reducible rfl
  refine rg_mem (fun u => ∃ b, u = .slice (some ⟨b, 0, none⟩) 3 3 : Value → Prop) (fun u w => OwnInts w (q0 + 1) (u 2).v [1, 2, 3] : (Nat → GV) → World → Prop) (fun _ => Ext) rfl rfl rfl rfl (by kernel_rfl) (by kernel_rfl) (fun w hS hN R hR => ?_) ?_
  · obtain ⟨hS, hM, hK⟩ := hS
    have HR := Lib.hid hR
    clear hR
    (try clear hN)
    go_simp
    exact givesM_val (HR.out _ _ ⟨_, rfl⟩ (OwnInts.lower (own_three w) hM) ((Ext.refl w).alloc _))
  rintro u2 s2 t2 ⟨b2, rfl⟩
  refine rg_mem (fun u => u = .agg #[.int .i64 1, .int .i64 2, .int .i64 3, .int .i64 0, .int .i64 0, .int .i64 0, .int .i64 0, .int .i64 0, .int .i64 0, .int .i64 3] : Value → Prop) (fun _ _ => True : (Nat → GV) → World → Prop) (fun _ => Ext) rfl rfl rfl rfl (by kernel_rfl) (by kernel_rfl) (fun w hS hN R hR => ?_) ?_
  · obtain ⟨hS, hM, hK⟩ := hS
    have HR := Lib.hid hR
    clear hR
    have h2 : OwnInts w (q0 + 1) (.slice (some ⟨b2, 0, none⟩) 3 3) [1, 2, 3] := hN.get 2 rfl (by kernel_rfl)
    (try clear hN)
    go_simp
    refine givesM_call ((rat_any _ 0 [1, 2, 3] 0 rfl (by decide) w h2.at.2 (by decide)).mono ?_)
    rintro e w' ⟨rfl, hx⟩
    exact ⟨_, rfl, HR.out _ _ (by rw [two_at]; rfl) trivial hx⟩
  rintro u3 s3 t3 rfl
  refine rg_pure (v := ?_) rfl (by kernel_rfl) (by kernel_rfl) (fun w hS hN => ?_) ?_
  rotate_left 1
  · obtain ⟨hS, hM, hK⟩ := hS
    clear hN
    go_simp
    refine givesP_mk ?_
    with_reducible rfl
  refine rg_pure (v := ?_) rfl (by kernel_rfl) (by kernel_rfl) (fun w hS hN => ?_) ?_
  rotate_left 1
  · obtain ⟨hS, hM, hK⟩ := hS
    clear hN
    go_simp
    refine givesP_mk ?_
    with_reducible rfl
  refine rg_mem (fun u => u = undef : Value → Prop) (fun u w => OwnRows 40 13 pL w q0 (.slice (some ⟨q0, 0, none⟩) 8 8) (tp0 :: tp1 :: List.replicate 6 nilPr) : (Nat → GV) → World → Prop) (fun _ w w2 => Upd (q0) w w2 ∧ (TwK B1 q0 g0 m0 hh : World → Prop) w2) rfl rfl rfl rfl (by kernel_rfl) (by kernel_rfl) (fun w hS hN R hR => ?_) ?_
  · obtain ⟨hS, hM, hK⟩ := hS
    have HR := Lib.hid hR
    clear hR
    obtain ⟨x, ho⟩ := hK.ps
    obtain ⟨g', c', e1, _, _, _, hth, hown', hu⟩ := OwnRows.setCells pL_len ho (i := 1) (x := x) (x' := tp1) rfl (j := 0) (ds := pL tp1) (by rw [pL_len]; decide) (fun t ht => by rw [if_pos (by rw [pL_len]; omega)]; rfl)
    simp only [Value.slice.injEq, Option.some.injEq, Addr.mk.injEq, and_true] at e1
    have e2 := e1.1
    clear e1
    subst e2
    clear hN
    refine givesM_store 40 _ _ rfl q0 13 (by go_simp) (pL tp1) (by go_simp; rfl) hth (by kernel_rfl) (pL_one _) ?_
    exact HR.out _ _ rfl hown' ⟨hu, ⟨(hu.block B1 (blk_lt hK.box) (fun e => by injection e; have := hK.lt; omega)).trans hK.box, ⟨tp1, hown'⟩, (hu.block g0 (blk_lt hK.gs) (fun e => by injection e; have := hK.lt; omega)).trans hK.gs, (hu.block m0 (blk_lt hK.ms) (fun e => by injection e; have := hK.lt; omega)).trans hK.ms, hK.lt⟩⟩
  rintro u6 s6 t6 rfl
  refine rg_done rfl (Nat.le_of_ble_eq_true (by kernel_rfl)) ?_
  intro w11 hS hT
  have hP : OwnRows 40 13 pL w11 q0 (.slice (some ⟨q0, 0, none⟩) 8 8) (tp0 :: tp1 :: List.replicate 6 nilPr) := hT (6, ⟨undef, s6, t6⟩) (by simp)
  have hK := hS.2.2
  have HBF : Hid (w11.heap[B1]? = some (.cells (stC hh twoS) 32 (0, 0))) := Lib.hid hK.box
  have hx11 : Ext w2 w11 := HXA.out.trans hS.1
  have hr11 := hx11.blk HR2.out
  obtain ⟨wf, hwf⟩ : ∃ wf, w11.setCells R 0 (stL hh twoS) = wf := ⟨_, rfl⟩
  have hu : Upd R w11 wf := by rw [← hwf]; exact setCells_upd _ _ _ _
  have HTR : Hid (w11.there R 0 (stL hh twoS).length) := Lib.hid (there_row hr11 (Nat.le_refl 16))
  have HRZ : Hid (wf.heap[R]? = some (.cells (stL hh twoS).toArray 32 (0, 0))) := Lib.hid (by rw [← hwf]; exact setCells_at [.slice none 0 0, .slice none 0 0, .slice none 0 0, .slice none 0 0, .slice none 0 0, .int .i64 0, .int .i64 0, .int .i64 0, .int .i64 0, .slice none 0 0, .slice none 0 0, .slice none 0 0, .slice none 0 0, .slice none 0 0, .int .i64 0, .int .i64 0] (stL hh twoS) rfl hr11)
  have HXF : Hid (Ext w wf) := Lib.hid ((HX2.out.trans hx11).upd hu (by have := HRR.out; omega))
  have hsz : R < w2.heap.size := blk_lt HR2.out
  have hwa := HXA.out.size
  have hwk := HXK.out.size
  have HOKF : Hid (StOk wf hh twoS) := Lib.hid (by
    have hlt := hK.lt
    have hqm := HQM.out
    have hrl := HRL.out
    have hpa := HPA.out
    have hh1 := HHH.out
    refine ⟨?_, ?_, ?_, ?_, ⟨_, _, rfl, fun h => absurd h (by decide)⟩, ⟨_, _, rfl, fun h => absurd h (by decide)⟩, ⟨_, _, rfl, fun h => absurd h (by decide)⟩, ⟨_, _, rfl, fun h => absurd h (by decide)⟩, ⟨_, _, rfl, fun h => absurd h (by decide)⟩, ?_, by decide +kernel⟩
    · have : NestAt 2 pairL wf (.slice (some ⟨w1.heap.size, 0, none⟩) 1 1) [[(0, 0)]] := KEY.out wf (hu.blk (hx11.blk HBI.out) (by omega)) (hu.blk (hx11.blk HBP.out) (by omega))
      rw [hpa] at this
      rw [← hh1]
      exact this
    · have hg := hu.blk hK.gs (by omega)
      rw [← hh1]
      exact ⟨_, _, rfl, Nat.le_refl 3, fun _ => ⟨g0, 0, rfl, blk_lt hg, fun j y hj i u hu => by
        match j with
        | 0 | 1 | 2 =>
          simp [twoS] at hj; subst hj
          refine blk_cell hg _ _ ?_
          match i with
          | 0 | 1 | 2 | 3 | 4 => simp [gL] at hu; subst hu; rfl
          | i + 5 => simp [gL] at hu
        | j + 3 => simp [twoS] at hj⟩⟩
    · have := OwnRows.rows pL_len (hP.but (But.upd (S := fun b => b = R) hu rfl) (fun b hb e => by have := (hP.lt b hb).1; omega))
      rw [← hh1]
      exact this
    · have hm := hu.blk hK.ms (by omega)
      rw [← hh1]
      exact ⟨_, _, rfl, Nat.le_refl 1, fun _ => ⟨m0, 0, rfl, blk_lt hm, fun j y hj i u hu => by
        match j with
        | 0 =>
          simp [twoS] at hj; subst hj
          simp only [Nat.zero_mul, Nat.zero_add]
          refine blk_cell hm _ _ ?_
          match i with
          | 0 | 1 => simp [pairL] at hu; subst hu; rfl
          | i + 2 => simp [pairL] at hu
        | j + 1 => simp [twoS] at hj⟩⟩
    · exact PairsAt.none _ _ _)
  have HWF := Lib.hid hwf
  clear hS hT hP hK hx11 hr11 hwf hu hsz hwa hwk hkk0 hq1 hqz hxk0
  go_wp2_with (first | (refine wpList_load_rowW (by rfl) 32 _ rfl B1 (by go_simp) (stL hh twoS) (stV hh twoS) rfl _ (range_row HBF.out) Try.underlying32 rfl (by kernel_rfl) ?_) | (refine wpList_store_row rfl 32 _ _ rfl R (stL hh twoS) (stV hh twoS) (by go_simp) (by go_simp) rfl HTR.out (by kernel_rfl) (stL_one _ _) HWF.out ?_))
  refine bodyPost_ret (v := .agg (stL hh twoS).toArray) (results_cell_row (by rfl) _ _ R _ _ _ _ (by go_simp) HRZ.out Try.underlying32 (by rfl) (by kernel_rfl)) (by go_simp) ?_
  exact ⟨hh, rfl, HOKF.out, HXF.out⟩
theorem two_looks : twoS.looks 1 = true ∧ twoS.looks 2 = false := ⟨by decide +kernel, by decide +kernel⟩
theorem two_good : StGood twoS := by
  refine ⟨⟨?_, ?_, ?_, ?_, ?_, ?_, ?_, ?_⟩, ?_, ?_⟩
  all_goals first | decide | decide +kernel | (simp [twoS])
theorem tp_lists : tp0.ring.list = [] ∧ tp1.ring.list = [1, 2, 3] := ⟨by kernel_rfl, by kernel_rfl⟩
theorem two_p12 {t : St} {g : Int} (h : St.PickC twoS 0 tp0 2 t g) : g = 1 ∧ t.gs = twoS.gs ∧ ∃ r1 r2 : Ri, r1.Holds [3] ∧ r2.Holds [2] ∧ t.ps = { tp0 with ring := r2 } :: { tp1 with ring := r1 } :: List.replicate 6 nilPr := by
  cases h with
  | next h => exact absurd rfl h
  | ring h hl hr => rw [tp_lists.1] at hl; cases hl
  | glob h hg => cases hg
  | @half vi v g l r1 r2 h hg hv hne hu hvx hl hr1 hr2 =>
    obtain rfl : vi = 1 := by omega
    obtain rfl : tp1 = v := Option.some.inj (show some tp1 = some v from hvx)
    rw [tp_lists.2] at hl hr1
    obtain ⟨rfl, rfl⟩ : 1 = g ∧ [2] = l := by
      have h2 : [1, 2] = g :: l := hl
      injection h2 with h3 h4
      exact ⟨h3, h4⟩
    exact ⟨rfl, rfl, r1, r2, hr1, hr2, rfl⟩
  | @vnext vi v h hg hv hne hu hvx hl =>
    obtain rfl : vi = 1 := by omega
    obtain rfl : tp1 = v := Option.some.inj (show some tp1 = some v from hvx)
    rw [tp_lists.2] at hl
    cases hl
  | none h hg hv => exact absurd ⟨by decide, by decide, by decide⟩ hv
theorem two_p11 {t : St} {g : Int} (h : St.PickC twoS 0 tp0 1 t g) : g = 0 := by
  cases h with
  | next h => exact absurd rfl h
  | ring h hl hr => rw [tp_lists.1] at hl; cases hl
  | glob h hg => cases hg
  | half h hg hv hne hu hvx hl hr1 hr2 => omega
  | vnext h hg hv hne hu hvx hl => omega
  | none h hg hv => rfl
theorem two_idle {i j : Nat} {x : Pr} (h : St.Idle twoS i j x) (hp : (1 : Int) = (i : Int) + 1) : i = 0 ∧ x = tp0 := by
  obtain rfl : i = 0 := by omega
  exact ⟨rfl, (Option.some.inj (show some tp0 = some x from h.at_)).symm⟩
structure T12 (s : St) (r1 r2 : Ri) : Prop where
  len : s.ps.length = 8
  p0 : s.ps[0]? = some ⟨1, 0, r2, 0⟩
  p1 : s.ps[1]? = some ⟨0, 0, r1, 0⟩
  gl : s.gs.length = 3
  g0 : ∃ y : Gr, s.gs[0]? = some y ∧ y.st = 2
theorem two_t12 {t : St} {r1 r2 : Ri} (hg : t.gs = twoS.gs) (hp : t.ps = { tp0 with ring := r2 } :: { tp1 with ring := r1 } :: List.replicate 6 nilPr) : T12 (t.after 1 1) r1 r2 := by
  have e : t.after 1 1 = t.runG 1 1 := rfl
  rw [e]
  refine ⟨?_, ?_, ?_, ?_, ?_⟩
  · show t.ps.length = 8; rw [hp]; rfl
  · show t.ps[0]? = _; rw [hp]; rfl
  · show t.ps[1]? = _; rw [hp]; rfl
  · show (t.gs.set _ _).length = 3; rw [List.length_set, hg]; rfl
  · refine ⟨{ t.gAt 1 with st := 2, m := (t.pAt 1).m, seq := (t.gAt 1).seq + 1 }, ?_, rfl⟩; show (t.gs.set 0 _)[0]? = _; rw [hg]; rfl
theorem two_start : ((twoS.drop1 2).runG 1 2).ps.length = 8 ∧ ((twoS.drop1 2).runG 1 2).ps[1]? = some ⟨0, 0, ⟨[1, 3, 0, 0, 0, 0, 0, 0], 0, 2⟩, 0⟩ := ⟨by kernel_rfl, by kernel_rfl⟩
theorem two_p12R {w w' : World} {e : Ending} (h : PickR w twoS 1 2 e w') : ∃ (s : St) (h' : StH) (r1 r2 : Ri), r1.Holds [3] ∧ r2.Holds [2] ∧ T12 s r1 r2 ∧ e = .returned (.tuple #[stV h' s, .int .i64 1, .int .i64 0]) ∧ StOk w' h' s ∧ Ext w w' := by
  rcases h with ⟨h, _⟩ | ⟨i, j, x, t, g, h', hp, hi, hc, he, hk, hx⟩
  · rw [two_looks.1] at h; cases h
  · obtain ⟨rfl, rfl⟩ := two_idle hi hp
    obtain ⟨rfl, hg, r1, r2, h1, h2, hps⟩ := two_p12 hc
    exact ⟨_, h', r1, r2, h1, h2, two_t12 hg hps, he, hk, hx⟩
theorem two_p11R {w w' : World} {e : Ending} (h : PickR w twoS 1 1 e w') : ∃ (s : St) (h' : StH), e = .returned (.tuple #[stV h' s, .int .i64 0, .int .i64 0]) ∧ Ext w w' := by
  rcases h with ⟨h, _⟩ | ⟨i, j, x, t, g, h', hp, hi, hc, he, hk, hx⟩
  · rw [two_looks.1] at h; cases h
  · obtain ⟨rfl, rfl⟩ := two_idle hi hp
    obtain rfl := two_p11 hc
    exact ⟨_, h', he, hx⟩
theorem two_p21R {w w' : World} {e : Ending} (h : PickR w twoS 2 1 e w') : e = .returned (.tuple #[stV StH.nil St.nil, .int .i64 0, .int .i64 1]) ∧ Ext w w' := by
  rcases h with ⟨h, he, hx⟩ | ⟨i, j, x, t, g, h', hp, hi, hc, he, hk, hx⟩
  · exact ⟨he, hx⟩
  · obtain rfl : i = 1 := by omega
    obtain rfl : tp1 = x := Option.some.inj (show some tp1 = some x from hi.at_)
    have hm : (0 : Int) = (j : Int) + 1 := hi.m
    omega
theorem two_s12R {w w' : World} {e : Ending} (h : StartR w twoS 1 2 e w') : ∃ (s : St) (h' : StH), s.ps.length = 8 ∧ s.ps[1]? = some ⟨0, 0, ⟨[1, 3, 0, 0, 0, 0, 0, 0], 0, 2⟩, 0⟩ ∧ e = .returned (.tuple #[stV h' s, .int .i64 0]) ∧ StOk w' h' s ∧ Ext w w' := by
  rcases h with ⟨h, _⟩ | ⟨i, j, k, x, y, h', hp, hg, hi, hy, hs, he, hk, hx⟩
  · rcases h with h | h | h | ⟨k, y, hk, hy, hs⟩
    · rw [two_looks.1] at h; cases h
    · exact absurd h (by decide)
    · exact absurd h (by decide)
    · obtain rfl : k = 1 := by omega
      obtain rfl : (⟨0, 0, 1, 0, 0⟩ : Gr) = y := Option.some.inj (show some _ = some y from hy)
      exact absurd rfl hs
  · exact ⟨_, h', two_start.1, two_start.2, he, hk, hx⟩
set_option maxRecDepth 100000 in
set_option maxHeartbeats 32000000 in
theorem r14fixed_yes (w : World) : Calls Try.prog 34 #[] w fun e w' => e = .returned (.bool true) ∧ Ext w w' := by
  go_enter Try.func34, Try.ntmps34
  go_wp2_with fail
  refine (two_any w).mono ?_
  rintro e w1 ⟨h1, rfl, hk1, hx1⟩
  go_wp2_with fail
  refine (fPick_any h1 twoS 1 2 w1 hk1 two_good (by decide)).mono ?_
  rintro e w2 hpr
  obtain ⟨aS, ha, r1, r2, hr1, hr2, hta, rfl, hka, hx2⟩ := two_p12R hpr
  have HTA := Lib.hid hta
  have HR1 := Lib.hid hr1
  have HR2 := Lib.hid hr2
  have HKA := Lib.hid hka
  have HX2 := Lib.hid (hx1.trans hx2)
  obtain ⟨wb1, wc1, hwb, hwc, hth, hbc, hxc⟩ := st_box w2 ha aS
  obtain ⟨B1, hB⟩ : ∃ B1, w2.heap.size = B1 := ⟨_, rfl⟩
  rw [hB] at hwc hth hbc
  have HWB1 := Lib.hid hwb
  have HB1 := Lib.hid hB
  have HWC1 := Lib.hid hwc
  have HTH1 := Lib.hid hth
  have HBS1 := Lib.hid hbc
  have HXC1 := Lib.hid hxc
  clear hwb hwc hth hbc hxc hB
  clear hpr hk1 hx1 hta hr1 hr2 hka hx2
  go_upto_region 2 with (first | rw [HWB1.out, HB1.out] | (refine wpList_store_row rfl 32 _ _ rfl B1 (stL ha aS) (stV ha aS) (by go_simp) (by go_simp) rfl HTH1.out (by kernel_rfl) (stL_one _ _) HWC1.out ?_))
  go_wp2_with fail
  refine (two_any wc1).mono ?_
  rintro e w3 ⟨h3, rfl, hk3, hx3⟩
  go_wp2_with fail
  refine (fPick_any h3 twoS 1 1 w3 hk3 two_good (by decide)).mono ?_
  rintro e w4 hpr
  obtain ⟨bS, hb, rfl, hx4⟩ := two_p11R hpr
  have HX4 := Lib.hid (hx3.trans hx4)
  obtain ⟨wb2, wc2, hwb, hwc, hth, hbc, hxc⟩ := st_box w4 hb bS
  obtain ⟨B2, hB⟩ : ∃ B2, w4.heap.size = B2 := ⟨_, rfl⟩
  rw [hB] at hwc hth hbc
  have HWB2 := Lib.hid hwb
  have HB2 := Lib.hid hB
  have HWC2 := Lib.hid hwc
  have HTH2 := Lib.hid hth
  have HBS2 := Lib.hid hbc
  have HXC2 := Lib.hid hxc
  clear hwb hwc hth hbc hxc hB
  clear hpr hk3 hx3 hx4
  go_upto_region 3 with (first | rw [HWB2.out, HB2.out] | (refine wpList_store_row rfl 32 _ _ rfl B2 (stL hb bS) (stV hb bS) (by go_simp) (by go_simp) rfl HTH2.out (by kernel_rfl) (stL_one _ _) HWC2.out ?_))
  go_wp2_with fail
  refine (two_any wc2).mono ?_
  rintro e w5 ⟨h5, rfl, hk5, hx5⟩
  go_wp2_with fail
  refine (fStart_any h5 twoS 1 2 w5 hk5 two_good).mono ?_
  rintro e w6 hpr
  obtain ⟨cS, hc, hcl, hcp, rfl, hkc, hx6⟩ := two_s12R hpr
  have HCL := Lib.hid hcl
  have HCP := Lib.hid hcp
  have HKC := Lib.hid hkc
  have HX6 := Lib.hid (hx5.trans hx6)
  obtain ⟨wb3, wc3, hwb, hwc, hth, hbc, hxc⟩ := st_box w6 hc cS
  obtain ⟨B3, hB⟩ : ∃ B3, w6.heap.size = B3 := ⟨_, rfl⟩
  rw [hB] at hwc hth hbc
  have HWB3 := Lib.hid hwb
  have HB3 := Lib.hid hB
  have HWC3 := Lib.hid hwc
  have HTH3 := Lib.hid hth
  have HBS3 := Lib.hid hbc
  have HXC3 := Lib.hid hxc
  clear hwb hwc hth hbc hxc hB
  clear hpr hk5 hx5 hcl hcp hkc hx6
  go_upto_region 4 with (first | rw [HWB3.out, HB3.out] | (refine wpList_store_row rfl 32 _ _ rfl B3 (stL hc cS) (stV hc cS) (by go_simp) (by go_simp) rfl HTH3.out (by kernel_rfl) (stL_one _ _) HWC3.out ?_))
  go_wp2_with fail
  refine (two_any wc3).mono ?_
  rintro e w7 ⟨h7, rfl, hk7, hx7⟩
  go_wp2_with fail
  refine (fPick_any h7 twoS 2 1 w7 hk7 two_good (by decide)).mono ?_
  rintro e w8 hpr
  obtain ⟨rfl, hx8⟩ := two_p21R hpr
  have HX8 := Lib.hid (hx7.trans hx8)
  obtain ⟨wb4, wc4, hwb, hwc, hth, hbc, hxc⟩ := st_box w8 StH.nil St.nil
  obtain ⟨B4, hB⟩ : ∃ B4, w8.heap.size = B4 := ⟨_, rfl⟩
  rw [hB] at hwc hth hbc
  have HWB4 := Lib.hid hwb
  have HB4 := Lib.hid hB
  have HWC4 := Lib.hid hwc
  have HTH4 := Lib.hid hth
  have HBS4 := Lib.hid hbc
  have HXC4 := Lib.hid hxc
  clear hwb hwc hth hbc hxc hB
  clear hpr hk7 hx7 hx8
  have X3 : Hid (Ext wc3 wc4) := Lib.hid (HX8.out.trans HXC4.out)
  have X2 : Hid (Ext wc2 wc4) := Lib.hid (HX6.out.trans (HXC3.out.trans X3.out))
  have X1 : Hid (Ext wc1 wc4) := Lib.hid (HX4.out.trans (HXC2.out.trans X2.out))
  have X0 : Hid (Ext w wc4) := Lib.hid (HX2.out.trans (HXC1.out.trans X1.out))
  have BA := Lib.hid (X1.out.blk HBS1.out)
  have BC := Lib.hid (X3.out.blk HBS3.out)
  have KA := Lib.hid (HKA.out.ext (HXC1.out.trans X1.out))
  have KC := Lib.hid (HKC.out.ext (HXC3.out.trans X3.out))
  obtain ⟨⟨bufA, hdA, nnA⟩, hrA⟩ : ∃ r, r2 = r := ⟨_, rfl⟩
  obtain ⟨⟨bufB, hdB, nnB⟩, hrB⟩ : ∃ r, r1 = r := ⟨_, rfl⟩
  rw [hrA] at HTA HR2
  rw [hrB] at HTA HR1
  have hla : bufA.length = 8 := by obtain ⟨_, _, _, _, _, _, h, _⟩ := HR2.out; exact h
  have hlb : bufB.length = 8 := by obtain ⟨_, _, _, _, _, _, h, _⟩ := HR1.out; exact h
  obtain ⟨c0, c1, c2, c3, c4, c5, c6, c7, rfl⟩ := list8 hla
  obtain ⟨d0, d1, d2, d3, d4, d5, d6, d7, rfl⟩ := list8 hlb
  clear hla hlb hrA hrB
  have hta := HTA.out
  obtain ⟨bq, oq, hqa, hqb, hcc⟩ := ps_get KA.out.ps hta.p0
  obtain ⟨bq', oq', hqa', -, hcd⟩ := ps_get KA.out.ps hta.p1
  rw [hqa] at hqa'
  simp only [Option.some.injEq, Addr.mk.injEq, and_true] at hqa'
  obtain ⟨hqb1, hqo1⟩ := hqa'
  subst hqb1 hqo1
  have q2 : wc4.cell? ⟨B1, 2, none⟩ = some (.slice (some ⟨bq, oq, none⟩) 8 ha.qc) := by have := st2 BA.out; rw [hqa, hta.len] at this; exact this
  have HQA := Lib.hid hqa
  have HQB := Lib.hid hqb
  have HCC := Lib.hid hcc
  have HCD := Lib.hid hcd
  clear hqa hqb hcc hcd hta
  obtain ⟨⟨p0, p1, p2, p3, p4, p5, p6⟩, p7, p8, p9, p10, p11, p12⟩ := HCC.out
  simp only [Nat.zero_mul, Nat.add_zero] at p0 p1 p2 p3 p4 p5 p6 p7 p8 p9 p10 p11 p12
  go_wp2_with (first | rw [HWB4.out, HB4.out] | (refine wpList_store_row rfl 32 _ _ rfl B4 (stL StH.nil St.nil) (stV StH.nil St.nil) (by go_simp) (by go_simp) rfl HTH4.out (by kernel_rfl) (stL_one _ _) HWC4.out ?_))
  refine (rrlist_k c0 c1 c2 c3 c4 c5 c6 c7 hdA nnA [2] (Ri.list_of HR2.out) wc4).mono ?_
  rintro e wn1 ⟨v1, rfl, hov, hxn⟩
  have XN1 : Hid (Ext wc4 wn1) := Lib.hid (hxn)
  have HOV1 := Lib.hid hov
  obtain ⟨Av1, cv1, hv, _⟩ := hov.ints
  subst hv
  clear hxn hov q2 p0 p1 p2 p3 p4 p5 p6 p7 p8 p9 p10 p11 p12
  obtain ⟨wl1, hwl⟩ : ∃ wl1, wn1.alloc (.cells #[.int .i64 2] 3) = wl1 := ⟨_, rfl⟩
  have HWL1 := Lib.hid hwl
  have HI1 : Hid (IntsAt wl1 (.slice (some ⟨wn1.heap.size, 0, none⟩) 1 1) [2]) := Lib.hid (by rw [← hwl]; exact ints_lit wn1 [2])
  have HXL1 : Hid (Ext wn1 wl1) := Lib.hid (by rw [← hwl]; exact (Ext.refl _).alloc _)
  clear hwl
  go_wp2_with (rw [HWL1.out])
  refine (rints_eq _ _ [2] [2] true (by decide) _ (HOV1.out.ext HXL1.out).at.2 HI1.out (by decide)).mono ?_
  rintro e wm1 ⟨rfl, hxm⟩
  have XM1 : Hid (Ext wc4 wm1) := Lib.hid (XN1.out.trans (HXL1.out.trans hxm))
  clear hxm
  have q2 : wm1.cell? ⟨B1, 2, none⟩ = some (.slice (some ⟨bq, oq, none⟩) 8 ha.qc) := by have := st2 (XM1.out.blk BA.out); rw [HQA.out, HTA.out.len] at this; exact this
  obtain ⟨⟨p0, p1, p2, p3, p4, p5, p6⟩, p7, p8, p9, p10, p11, p12⟩ := HCD.out
  rw [← bcell XM1.out _ _ HQB.out] at p0 p1 p2 p3 p4 p5 p6 p7 p8 p9 p10 p11 p12
  simp only [Nat.one_mul] at p0 p1 p2 p3 p4 p5 p6 p7 p8 p9 p10 p11 p12
  go_wp2_with fail
  refine (rrlist_k d0 d1 d2 d3 d4 d5 d6 d7 hdB nnB [3] (Ri.list_of HR1.out) wm1).mono ?_
  rintro e wn2 ⟨v2, rfl, hov, hxn⟩
  have XN2 : Hid (Ext wc4 wn2) := Lib.hid ((XM1.out).trans hxn)
  have HOV2 := Lib.hid hov
  obtain ⟨Av2, cv2, hv, _⟩ := hov.ints
  subst hv
  clear hxn hov q2 p0 p1 p2 p3 p4 p5 p6 p7 p8 p9 p10 p11 p12
  obtain ⟨wl2, hwl⟩ : ∃ wl2, wn2.alloc (.cells #[.int .i64 3] 3) = wl2 := ⟨_, rfl⟩
  have HWL2 := Lib.hid hwl
  have HI2 : Hid (IntsAt wl2 (.slice (some ⟨wn2.heap.size, 0, none⟩) 1 1) [3]) := Lib.hid (by rw [← hwl]; exact ints_lit wn2 [3])
  have HXL2 : Hid (Ext wn2 wl2) := Lib.hid (by rw [← hwl]; exact (Ext.refl _).alloc _)
  clear hwl
  go_wp2_with (rw [HWL2.out])
  refine (rints_eq _ _ [3] [3] true (by decide) _ (HOV2.out.ext HXL2.out).at.2 HI2.out (by decide)).mono ?_
  rintro e wm2 ⟨rfl, hxm⟩
  have XM2 : Hid (Ext wc4 wm2) := Lib.hid (XN2.out.trans (HXL2.out.trans hxm))
  clear hxm
  obtain ⟨gy, hgy, hgs⟩ := HTA.out.g0
  obtain ⟨bg, og, hga, hgb, e0, e1, e2, e3, e4⟩ := gs_get KA.out.gs hgy
  rw [hgs] at e2
  have z1 : wm2.cell? ⟨B1, 1, none⟩ = some (.slice (some ⟨bg, og, none⟩) 3 ha.gc) := by have := st1 (XM2.out.blk BA.out); rw [hga, HTA.out.gl] at this; exact this
  rw [← bcell XM2.out _ _ hgb] at e2
  simp only [Nat.zero_mul, Nat.add_zero] at e2
  clear hgy hga e0 e1 e3 e4
  obtain ⟨br, orr, hra, hrb, hce⟩ := ps_get KC.out.ps HCP.out
  have q2 : wm2.cell? ⟨B3, 2, none⟩ = some (.slice (some ⟨br, orr, none⟩) 8 hc.qc) := by have := st2 (XM2.out.blk BC.out); rw [hra, HCL.out] at this; exact this
  obtain ⟨⟨p0, p1, p2, p3, p4, p5, p6⟩, p7, p8, p9, p10, p11, p12⟩ := hce
  rw [← bcell XM2.out _ _ hrb] at p0 p1 p2 p3 p4 p5 p6 p7 p8 p9 p10 p11 p12
  simp only [Nat.one_mul] at p0 p1 p2 p3 p4 p5 p6 p7 p8 p9 p10 p11 p12
  clear hra
  go_wp2_with fail
  refine (rrlist_k 1 3 0 0 0 0 0 0 0 2 [1, 3] (by kernel_rfl) wm2).mono ?_
  rintro e wn3 ⟨v3, rfl, hov, hxn⟩
  have XN3 : Hid (Ext wc4 wn3) := Lib.hid ((XM2.out).trans hxn)
  have HOV3 := Lib.hid hov
  obtain ⟨Av3, cv3, hv, _⟩ := hov.ints
  subst hv
  clear hxn hov q2 z1 e2 hgb hgs hrb p0 p1 p2 p3 p4 p5 p6 p7 p8 p9 p10 p11 p12
  obtain ⟨wl3, hwl⟩ : ∃ wl3, wn3.alloc (.cells #[.int .i64 1, .int .i64 3] 3) = wl3 := ⟨_, rfl⟩
  have HWL3 := Lib.hid hwl
  have HI3 : Hid (IntsAt wl3 (.slice (some ⟨wn3.heap.size, 0, none⟩) 2 2) [1, 3]) := Lib.hid (by rw [← hwl]; exact ints_lit wn3 [1, 3])
  have HXL3 : Hid (Ext wn3 wl3) := Lib.hid (by rw [← hwl]; exact (Ext.refl _).alloc _)
  clear hwl
  go_wp2_with (rw [HWL3.out])
  refine (rints_eq _ _ [1, 3] [1, 3] true (by decide) _ (HOV3.out.ext HXL3.out).at.2 HI3.out (by decide)).mono ?_
  rintro e wm3 ⟨rfl, hxm⟩
  have XM3 : Hid (Ext wc4 wm3) := Lib.hid (XN3.out.trans (HXL3.out.trans hxm))
  clear hxm
  go_wp2
  go_ret
  exact ⟨rfl, X0.out.trans XM3.out⟩
theorem pick_looks {w w' : World} {s : St} {p vc : Int} {e : Ending} (hl : s.looks p = true) (h : PickR w s p vc e w') :
    ∃ (i j : Nat) (x : Pr) (t : St) (g : Int) (h' : StH), p = (i : Int) + 1 ∧ St.Idle s i j x ∧ St.PickC s i x vc t g ∧ e = .returned (.tuple #[stV h' (t.after p g), .int .i64 g, .int .i64 0]) ∧ StOk w' h' (t.after p g) ∧ Ext w w' := by
  rcases h with ⟨h, _⟩ | h
  · rw [hl] at h; cases h
  · exact h
namespace St
theorem filter_flatM {α β : Type} (f : α → Bool) (g : α → β) : ∀ l : List α, (l.filter f).map g = l.flatMap fun m => if f m then [g m] else []
  | [] => rfl
  | a :: l => by
    rw [List.filter_cons, List.flatMap_cons, ← filter_flatM f g l]
    cases f a <;> simp
theorem flat_putA {α : Type} {f : α → List Int} {n : Int} : ∀ {l : List α} {i : Nat} {x y : α}, l[i]? = some x → ((l.set i y).flatMap f).count n + (f x).count n = (l.flatMap f).count n + (f y).count n
  | [], i, x, y, h => by simp at h
  | a :: l, 0, x, y, h => by
    have e : a = x := by simpa using h
    subst e
    simp only [List.set_cons_zero, List.flatMap_cons, List.count_append]
    omega
  | a :: l, i + 1, x, y, h => by
    have := flat_putA (f := f) (n := n) (l := l) (i := i) (y := y) (by simpa using h)
    simp only [List.set_cons_succ, List.flatMap_cons, List.count_append]
    omega
theorem onM_putM {ms : List (Int × Int)} {j : Nat} {q q' : Int × Int} (hq : ms[j]? = some q) (b : Bool) (n : Int) (u v : List Int) (hu : (if (q.2 != 0 && ((q.1 != 0) == b)) then [q.2] else []) = u) (hv : (if (q'.2 != 0 && ((q'.1 != 0) == b)) then [q'.2] else []) = v) :
    (((ms.set j q').filter fun m => m.2 != 0 && ((m.1 != 0) == b)).map Prod.snd).count n + u.count n = ((ms.filter fun m => m.2 != 0 && ((m.1 != 0) == b)).map Prod.snd).count n + v.count n := by
  subst hu hv
  rw [filter_flatM, filter_flatM]
  exact flat_putA (f := fun m : Int × Int => if (m.2 != 0 && ((m.1 != 0) == b)) then [m.2] else []) (n := n) (y := q') hq
theorem holds_all {s t : St} (h : s.holds = true) (hp : t.procs = s.procs) (hl : t.ps.length = s.ps.length)
    (hps : ∀ (i : Nat) (p' : Pr), t.ps[i]? = some p' → ∃ p, s.ps[i]? = some p ∧ p'.m = p.m ∧ p'.seq = p.seq ∧ p'.ring.may = true ∧ (s.procs ≤ (i : Int) → p'.next = 0 ∧ p'.ring.n ≤ 0))
    (hml : t.ms.length = s.ms.length) (hm1 : ∀ j : Nat, (t.ms.getD j (0, 0)).1 = (s.ms.getD j (0, 0)).1) : t.holds = true := by
  unfold holds at h ⊢
  rw [Bool.and_eq_true] at h ⊢
  refine ⟨allIx_yes fun j p' hj => ?_, allIx_yes fun j q hj => ?_⟩
  · obtain ⟨p, hpj, h1, h2, h3, h4⟩ := hps j p' hj
    have hx := allIx_iff.1 h.1 j p hpj
    rw [Nat.zero_add] at hx
    unfold holdP at hx ⊢
    rw [hp, hml, hm1, h1, h2, h3]
    simp only [Bool.and_eq_true, decide_eq_true_eq, Bool.not_eq_true', Bool.and_eq_false_iff, Bool.or_eq_false_iff, decide_eq_false_iff_not] at hx ⊢
    refine ⟨⟨⟨⟨trivial, hx.1.1.1.2⟩, hx.1.1.2⟩, hx.1.2⟩, ?_⟩
    by_cases hpi : s.procs ≤ (j : Int)
    · right
      obtain ⟨n1, n2⟩ := h4 hpi
      refine ⟨⟨?_, by rw [n1]; simp⟩, by omega⟩
      rcases hx.2 with hx2 | hx2
      · exact absurd hpi hx2
      · exact hx2.1.1
    · exact .inl hpi
  · have hql : j < s.ms.length := by rw [← hml]; exact (List.getElem?_eq_some_iff.1 hj).1
    obtain ⟨q0, hq0⟩ : ∃ q0, s.ms[j]? = some q0 := ⟨_, List.getElem?_eq_getElem hql⟩
    have hh := allIx_iff.1 h.2 j q0 hq0
    rw [Nat.zero_add] at hh
    have e : q.1 = q0.1 := by
      have := hm1 j
      rw [List.getD, List.getD, hj, hq0] at this
      exact this
    have key : ∀ a : Nat, (t.ps.getD a nilP).m = (s.ps.getD a nilP).m := fun a => by
      rw [List.getD, List.getD]
      cases ht : t.ps[a]? with
      | none =>
        have h1 := List.getElem?_eq_none_iff.1 ht
        rw [List.getElem?_eq_none_iff.2 (by omega)]
      | some p' =>
        obtain ⟨p, hpa, hm, _⟩ := hps a p' ht
        rw [hpa]
        exact hm
    unfold holdM at hh ⊢
    rw [e, key, hl]
    exact hh
theorem run_may {s : St} {i j k : Nat} {x : Pr} {y : Gr} (hi : Idle s i j x) (hy : s.gs[k]? = some y) (h1 : y.st = 1) (hq : y.seq < 2305843009213693951) {ps' : List Pr} {gl : List Int} (hl : ps'.length = s.ps.length)
    (hps : ∀ (i : Nat) (p' : Pr), ps'[i]? = some p' → ∃ p, s.ps[i]? = some p ∧ p'.m = p.m ∧ p'.seq = p.seq ∧ p'.ring.may = true ∧ (s.procs ≤ (i : Int) → p'.next = 0 ∧ p'.ring.n ≤ 0))
    (hc : ∀ n : Int, n ≠ (k : Int) + 1 → (ps'.flatMap queueOf ++ gl).count n = s.runs.count n) (hk : (ps'.flatMap queueOf ++ gl).count ((k : Int) + 1) = 0) :
    ({ s with ps := ps', glob := gl, gs := s.gs.set k { y with st := 2, m := (j : Int) + 1, seq := y.seq + 1 }, ms := s.ms.set j ((i : Int) + 1, (k : Int) + 1) } : St).may = true := by
  have h := hi.may
  obtain ⟨hw, h2, h4, h5, h6, h7⟩ := may_parts h
  have hs := stands_times (h7 k y hy)
  rw [h1] at hs
  unfold times want at hs
  simp only [Int.reduceEq, if_false, if_true] at hs
  have hjl := (List.getElem?_eq_some_iff.1 hi.hm).1
  have hi0 : (((i : Int) + 1) != 0) = true := by simp; omega
  have hk0 : (((k : Int) + 1) != 0) = true := by simp; omega
  have oT : ∀ n : Int, (((s.ms.set j ((i : Int) + 1, (k : Int) + 1)).filter fun m => m.2 != 0 && ((m.1 != 0) == true)).map Prod.snd).count n = (s.onM true).count n + [(k : Int) + 1].count n := fun n => by
    have := onM_putM (q' := ((i : Int) + 1, (k : Int) + 1)) hi.hm true n [] [(k : Int) + 1] rfl (by simp only [hi0, hk0]; rfl)
    simp only [List.count_nil, Nat.add_zero] at this
    exact this
  have oF : ∀ n : Int, (((s.ms.set j ((i : Int) + 1, (k : Int) + 1)).filter fun m => m.2 != 0 && ((m.1 != 0) == false)).map Prod.snd).count n = (s.onM false).count n := fun n => by
    have := onM_putM (q' := ((i : Int) + 1, (k : Int) + 1)) hi.hm false n [] [] rfl (by simp only [hi0, hk0]; rfl)
    simp only [List.count_nil, Nat.add_zero] at this
    exact this
  refine may_step h (k := k) (y := y) (y' := { y with st := 2, m := (j : Int) + 1, seq := y.seq + 1 }) ?_ (goods_set (s := s) h2 rfl hy rfl rfl rfl (low_succ (good_seq h hy) hq)) (holds_all h4 rfl hl hps List.length_set (fun a => ?_)) h5 hy rfl hc (fun n hn => ?_) (fun n _ => rfl) (fun n _ => oF n) (by simp) hk ?_ hs.2.2.1 ?_ ?_ (fun j' g hj' hg hst => ?_)
  · unfold whole at hw ⊢
    simp only [List.length_set, hl] at hw ⊢
    exact hw
  · by_cases ha : a = j
    · subst ha
      rw [List.getD, List.getD, List.getElem?_set_self hjl, hi.hm]
      rfl
    · rw [List.getD, List.getD, List.getElem?_set_ne (Ne.symm ha)]
  · refine (oT n).trans ?_
    rw [List.count_eq_zero.2 (show n ∉ [(k : Int) + 1] by simpa using hn), Nat.add_zero]
  · refine (oT _).trans ?_
    rw [List.count_singleton_self, hs.2.1]
    rfl
  · exact (oF _).trans hs.2.2.2
  · rw [if_neg (by simp)]
    simp only [List.length_set]
    refine ⟨by omega, ?_⟩
    rw [show ((j : Int) + 1 - 1).toNat = j by omega, List.getD, List.getElem?_set_self hjl]
    rfl
  · have hstd := h7 j' g hg
    unfold stands at hstd
    simp only [Bool.and_eq_true] at hstd
    have h8 := hstd.2
    rw [if_neg (by omega)] at h8
    simp only [Bool.and_eq_true, decide_eq_true_eq] at h8
    simp only [List.length_set]
    refine ⟨h8.1.2, ?_⟩
    have hne : (g.m - 1).toNat ≠ j := fun e => by
      have h9 := h8.2
      rw [e, List.getD, hi.hm] at h9
      simp only [Option.getD_some] at h9
      omega
    rw [List.getD, List.getElem?_set_ne (Ne.symm hne)]
    have h9 := h8.2
    rw [List.getD] at h9
    exact h9
end St
namespace St
theorem queue_drop {p : Pr} (hb : p.ring.buf.length = 8) (hm : p.ring.may = true) (g : Int) : queueOf (dropP g p) = (queueOf p).filter (· != g) := by
  have e : (dropP g p).ring.list = p.ring.list.filter (· != g) := Ri.list_of (dropP_ring hb hm).1
  unfold queueOf
  rw [e, List.filter_append]
  congr 1
  show (if (if p.next = g then 0 else p.next) ≠ 0 then [if p.next = g then 0 else p.next] else []) = (if p.next ≠ 0 then [p.next] else []).filter (· != g)
  by_cases hg : p.next = g
  · by_cases h0 : g = 0 <;> simp [hg, h0]
  · by_cases h0 : p.next = 0 <;> simp [hg, h0]
theorem flat_drop {g : Int} : ∀ {l : List Pr}, (∀ p ∈ l, p.ring.buf.length = 8 ∧ p.ring.may = true) → (l.map (dropP g)).flatMap queueOf = (l.flatMap queueOf).filter (· != g)
  | [], _ => rfl
  | p :: l, h => by
    rw [List.map_cons, List.flatMap_cons, List.flatMap_cons, List.filter_append, flat_drop fun q hq => h q (List.mem_cons_of_mem _ hq), queue_drop (h p List.mem_cons_self).1 (h p List.mem_cons_self).2]
theorem out_use {s : St} (h : s.may = true) {i : Nat} {x : Pr} (hx : s.ps[i]? = some x) (hi : s.procs ≤ (i : Int)) : x.next = 0 ∧ x.ring.n ≤ 0 := by
  have hh := allIx_iff.1 (by have := (may_parts h).2.2.1; unfold holds at this; rw [Bool.and_eq_true] at this; exact this.1) i x hx
  rw [Nat.zero_add] at hh
  unfold holdP at hh
  simp only [Bool.and_eq_true, decide_eq_true_eq, Bool.not_eq_true', Bool.and_eq_false_iff, Bool.or_eq_false_iff, decide_eq_false_iff_not] at hh
  rcases hh.2 with h2 | h2
  · exact absurd hi h2
  · exact ⟨by simpa using h2.1.2, by omega⟩
theorem start_eq {s : St} {i j k : Nat} {x : Pr} {y : Gr} (hi : Idle s i j x) (hy : s.gs[k]? = some y) :
    (s.drop1 ((k : Int) + 1)).runG ((i : Int) + 1) ((k : Int) + 1) = { s with ps := s.ps.map (dropP ((k : Int) + 1)), glob := s.glob.filter (· != (k : Int) + 1), gs := s.gs.set k { y with st := 2, m := (j : Int) + 1, seq := y.seq + 1 }, ms := s.ms.set j ((i : Int) + 1, (k : Int) + 1) } := by
  have hx : (s.drop1 ((k : Int) + 1)).ps[i]? = some (dropP ((k : Int) + 1) x) := by
    unfold drop1
    simp only
    rw [List.getElem?_map, hi.at_]
    rfl
  exact runG_eq (s := s.drop1 ((k : Int) + 1)) (y := y) (q := ((i : Int) + 1, 0)) hx hi.m hi.hm hy
theorem start_may {s : St} {i j k : Nat} {x : Pr} {y : Gr} (hi : Idle s i j x) (hb : ∀ p ∈ s.ps, p.ring.buf.length = 8) (hy : s.gs[k]? = some y) (h1 : y.st = 1) (hq : y.seq < 2305843009213693951) :
    ((s.drop1 ((k : Int) + 1)).runG ((i : Int) + 1) ((k : Int) + 1)).may = true := by
  rw [start_eq hi hy]
  have hr : ∀ p ∈ s.ps, p.ring.buf.length = 8 ∧ p.ring.may = true := fun p hp => by
    obtain ⟨a, ha⟩ := List.mem_iff_getElem?.1 hp
    exact ⟨hb p hp, may_ring hi.may ha⟩
  have hrun : (s.ps.map (dropP ((k : Int) + 1))).flatMap queueOf ++ s.glob.filter (· != (k : Int) + 1) = s.runs.filter (· != (k : Int) + 1) := by
    rw [flat_drop hr]
    unfold runs
    rw [List.filter_append]
  refine run_may hi hy h1 hq (List.length_map _) (fun a p' ha => ?_) (fun n hn => ?_) ?_
  · rw [List.getElem?_map] at ha
    cases hp : s.ps[a]? with
    | none => rw [hp] at ha; cases ha
    | some p =>
      rw [hp] at ha
      obtain rfl := Option.some.inj ha
      have hpr := hr p (List.mem_of_getElem? hp)
      have hd := dropP_ring (g := (k : Int) + 1) hpr.1 hpr.2
      refine ⟨p, rfl, rfl, rfl, Ri.may_of hd.1, fun hu => ?_⟩
      obtain ⟨u1, u2⟩ := out_use hi.may hp hu
      have hh := Ri.holds_n (Ri.holds_may hpr.1 hpr.2)
      have h0 : p.ring.list = [] := List.length_eq_zero_iff.1 (by omega)
      have hn := (Ri.holds_n hd.1).1
      rw [h0] at hn
      refine ⟨?_, ?_⟩
      · show (if p.next = _ then 0 else p.next) = 0
        rw [u1]; simp
      · show (Ri.at' p.ring.head.toNat (p.ring.list.filter (· != (k : Int) + 1))).n ≤ 0
        rw [h0, hn]
        simp
  · rw [hrun]; exact count_filter_ne _ _ _ hn
  · rw [hrun]; exact count_filter_self _ _
end St
end Go.Proofs.Ytogcfndhcphpaaa
