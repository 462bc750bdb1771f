/-
  Several texts in one: Tzq, Gi, Tza.
-/
import Derived.Test.YtogcfndhcphpaaaB09
import Derived.Test.YtogcfndhcphpaaaB05
import Derived.Deep.MidRow
import Derived.Test.YtogcfndhcphpaaaB04
set_option linter.unusedVariables false
set_option linter.unusedSimpArgs false
namespace Go.Proofs.Ytogcfndhcphpaaa
open Go.RowKit
theorem run_append_op {P : Program} {o : Oper} {a : Act} {w w' : World} (s x : Operand) (t : TypeId) (ho : o.op = .call { callee := .builtin .append, args := #[s, x], argTypes := #[t, t] }) (v xv : Value) (hs : a.eval s = v) (hx : a.eval x = xv) {v' : Value}
    (hr : (Builtin.append_ #[t, t] o.type #[v, xv]).run P w = .ok v' w') : (execOp a.eval o).run P w = .ok (.value v') w' := by
  unfold execOp
  simp only [ho, resolve, invoke, builtin, Sem.run_bind, Sem.run_pure, Result.andThen_ok, List.map_toArray, List.map_cons, List.map_nil, hs, hx, hr]
theorem own_instr {w : World} {B : Nat} {g : Nat} {l : List (Int × Int)} {A : Option Addr} {c : Nat} (ho : OwnRows 68 2 pairL w B (.slice (some ⟨g, 0, none⟩) 0 0) []) (hr : RowsAt 2 pairL w (.slice A l.length c) l) (hl : l.length ≤ 100000) (hB : B ≤ w.heap.size) {w0 : World} (hx : Ext w0 w) (h0 : B = w0.heap.size) :
    ∃ A' c' w', (Builtin.append_ #[69, 69] 69 #[.slice (some ⟨g, 0, none⟩) 0 0, .slice A l.length c]).run Try.prog w = .ok (.slice A' l.length c') w' ∧ OwnRows 68 2 pairL w' B (.slice A' l.length c') l ∧ Ext w0 w' := by
  subst h0
  obtain ⟨i0, I0, I1, I2, I3⟩ := info_parts Try.infoInstr
  obtain ⟨u, w1, hr, ho', hg⟩ := OwnRows.append (P := Try.prog) (e := 68) (m := 2) (f := pairL) (xs := []) 69 Try.underlying69 I0 I1 I2 I3 rfl (by decide) pairL_len pairL_one ho hr (by simp [maxLen]; omega) (by simp; omega) hB
  obtain ⟨A', c', rfl, -⟩ := (OwnRows.rows pairL_len ho').form
  exact ⟨A', c', w1, hr, ho', OwnRows.grown (W := w0) ho hx hg⟩
structure StApart (B : Nat) (w : World) (I : Nat → Nat × Nat) (h : StH) (s : St) : Prop where
  low : ∀ i, i < 10 → B ≤ (I i).1 ∧ (I i).1 ≤ (I i).2 ∧ (I i).2 ≤ w.heap.size
  apart : ∀ i j, i < 10 → j < 10 → i ≠ j → (I i).2 ≤ (I j).1 ∨ (I j).2 ≤ (I i).1
  prog : NestIn (I 0).1 (I 0).2 2 pairL w (.slice h.pa s.prog.length h.pc) s.prog
  gs : OwnRows 55 5 gL w (I 1).1 (.slice h.ga s.gs.length h.gc) s.gs ∧ UnderB (.slice h.ga s.gs.length h.gc) (I 1).2
  ps : OwnRows 40 13 pL w (I 2).1 (.slice h.qa s.ps.length h.qc) s.ps ∧ UnderB (.slice h.qa s.ps.length h.qc) (I 2).2
  ms : OwnRows 57 2 pairL w (I 3).1 (.slice h.ma s.ms.length h.mc) s.ms ∧ UnderB (.slice h.ma s.ms.length h.mc) (I 3).2
  glob : OwnInts w (I 4).1 (.slice h.la s.glob.length h.lc) s.glob ∧ UnderB (.slice h.la s.glob.length h.lc) (I 4).2
  w0 : OwnInts w (I 5).1 (.slice h.a0 s.w0.length h.k0) s.w0 ∧ UnderB (.slice h.a0 s.w0.length h.k0) (I 5).2
  w1 : OwnInts w (I 6).1 (.slice h.a1 s.w1.length h.k1) s.w1 ∧ UnderB (.slice h.a1 s.w1.length h.k1) (I 6).2
  w2 : OwnInts w (I 7).1 (.slice h.a2 s.w2.length h.k2) s.w2 ∧ UnderB (.slice h.a2 s.w2.length h.k2) (I 7).2
  w3 : OwnInts w (I 8).1 (.slice h.a3 s.w3.length h.k3) s.w3 ∧ UnderB (.slice h.a3 s.w3.length h.k3) (I 8).2
  timers : OwnTs w (I 9).1 (.slice h.ta s.timers.length h.tc) s.timers ∧ UnderB (.slice h.ta s.timers.length h.tc) (I 9).2
theorem StApart.ok {B : Nat} {w : World} {I : Nat → Nat × Nat} {h : StH} {s : St} (k : StApart B w I h s) (hb : ∀ p ∈ s.ps, p.ring.buf.length = 8) : StOk w h s :=
  ⟨k.prog.nest, OwnRows.rows gL_len k.gs.1, OwnRows.rows pL_len k.ps.1, OwnRows.rows pairL_len k.ms.1, k.glob.1.at.2, k.w0.1.at.2, k.w1.1.at.2, k.w2.1.at.2, k.w3.1.at.2, k.timers.1.pairs, hb⟩
def bxL (s : St) (v0 v1 v2 v3 v4 v9 v10 v11 v12 v13 : Value) : List Value := [v0, v1, v2, v3, v4, .int .i64 s.c0, .int .i64 s.c1, .int .i64 s.c2, .int .i64 s.c3, v9, v10, v11, v12, v13, .int .i64 s.clock, .int .i64 s.procs]
theorem bx_set4 {w : World} {g : Nat} {s : St} {v0 v1 v2 v3 v4 x y z u v13 d0 d1 d2 d3 : Value} (h : w.heap[g]? = some (.cells (bxL s v0 v1 v2 v3 v4 x y z u v13).toArray 32 (0, 0))) : (w.setCells g 9 [d0, d1, d2, d3]).heap[g]? = some (.cells (bxL s v0 v1 v2 v3 v4 d0 d1 d2 d3 v13).toArray 32 (0, 0)) := blk_set (blk_set (blk_set (blk_set h 9 d0) 10 d1) 11 d2) 12 d3
theorem bx_there {w : World} {g : Nat} {s : St} {v0 v1 v2 v3 v4 x y z u v13 : Value} (h : w.heap[g]? = some (.cells (bxL s v0 v1 v2 v3 v4 x y z u v13).toArray 32 (0, 0))) : w.there g 9 4 := fun j hj => by
  refine ⟨?_, frozen_of_row _ _ (9 + j) _ _ h⟩
  rw [blk_cell h (9 + j) _ (Array.getElem?_eq_getElem (by show 9 + j < 16; omega))]
  rfl
structure CopyK (s : St) (w0 : World) (g M : Nat) (v0 v1 v2 v3 v4 v13 : Value) (w : World) : Prop where
  old : ∀ b, b < M → b ≠ g → w.heap[b]? = w0.heap[b]?
  box : ∃ x : Value × Value × Value × Value, w.heap[g]? = some (.cells (bxL s v0 v1 v2 v3 v4 x.1 x.2.1 x.2.2.1 x.2.2.2 v13).toArray 32 (0, 0))
theorem CopyK.low {s : St} {w0 w w2 : World} {g M : Nat} {v0 v1 v2 v3 v4 v13 : Value} (k : CopyK s w0 g M v0 v1 v2 v3 v4 v13 w) (hl : LowSame M w w2) (hg : g < M) : CopyK s w0 g M v0 v1 v2 v3 v4 v13 w2 :=
  ⟨fun b hb hne => (hl b hb).trans (k.old b hb hne), by obtain ⟨x, hx⟩ := k.box; exact ⟨x, (hl g hg).trans hx⟩⟩
set_option maxRecDepth 100000 in
set_option maxHeartbeats 16000000 in
theorem rCopy_any (h : StH) (s : St) (w : World) (hk : StOk w h s) (hf : StFew s) : Calls Try.prog 16 #[stV h s] w fun e w' => ∃ h' I, e = .returned (stV h' s) ∧ StApart w.heap.size w' I h' s ∧ Ext w w' := by
  have HF := Lib.hid hf
  have f1 := hf.prog.1
  obtain ⟨W0, hW0⟩ : ∃ W0, w.heap.size = W0 := ⟨_, rfl⟩
  obtain ⟨R, hR⟩ : ∃ R, W0 + 1 = R := ⟨_, rfl⟩
  obtain ⟨w2, hw2⟩ : ∃ w2, (w.alloc (.cells #[.slice h.pa s.prog.length h.pc, .slice h.ga s.gs.length h.gc, .slice h.qa s.ps.length h.qc, .slice h.ma s.ms.length h.mc, .slice h.la s.glob.length h.lc, .int .i64 s.c0, .int .i64 s.c1, .int .i64 s.c2, .int .i64 s.c3, .slice h.a0 s.w0.length h.k0, .slice h.a1 s.w1.length h.k1, .slice h.a2 s.w2.length h.k2, .slice h.a3 s.w3.length h.k3, .slice h.ta s.timers.length h.tc, .int .i64 s.clock, .int .i64 s.procs] 32)).alloc (.cells #[.slice none 0 0, .slice none 0 0, .slice none 0 0, .slice none 0 0, .slice none 0 0, .int .i64 0, .int .i64 0, .int .i64 0, .int .i64 0, .slice none 0 0, .slice none 0 0, .slice none 0 0, .slice none 0 0, .slice none 0 0, .int .i64 0, .int .i64 0] 32) = w2 := ⟨_, rfl⟩
  have hx2 : Ext w w2 := by rw [← hw2]; exact ((Ext.refl w).alloc _).alloc _
  have HX2 := Lib.hid hx2
  have HB2 : Hid (w2.heap[W0]? = some (.cells (stC h s) 32 (0, 0))) := Lib.hid (by rw [← hw2, ← hW0]; exact blk_alloc (blk_new w _) _)
  have HR2 : Hid (w2.heap[R]? = some (.cells #[.slice none 0 0, .slice none 0 0, .slice none 0 0, .slice none 0 0, .slice none 0 0, .int .i64 0, .int .i64 0, .int .i64 0, .int .i64 0, .slice none 0 0, .slice none 0 0, .slice none 0 0, .slice none 0 0, .slice none 0 0, .int .i64 0, .int .i64 0] 32 (0, 0))) := Lib.hid (by
    have := blk_new (w.alloc (.cells #[.slice h.pa s.prog.length h.pc, .slice h.ga s.gs.length h.gc, .slice h.qa s.ps.length h.qc, .slice h.ma s.ms.length h.mc, .slice h.la s.glob.length h.lc, .int .i64 s.c0, .int .i64 s.c1, .int .i64 s.c2, .int .i64 s.c3, .slice h.a0 s.w0.length h.k0, .slice h.a1 s.w1.length h.k1, .slice h.a2 s.w2.length h.k2, .slice h.a3 s.w3.length h.k3, .slice h.ta s.timers.length h.tc, .int .i64 s.clock, .int .i64 s.procs] 32)) (.cells #[.slice none 0 0, .slice none 0 0, .slice none 0 0, .slice none 0 0, .slice none 0 0, .int .i64 0, .int .i64 0, .int .i64 0, .int .i64 0, .slice none 0 0, .slice none 0 0, .slice none 0 0, .slice none 0 0, .slice none 0 0, .int .i64 0, .int .i64 0] 32)
    rw [hw2, World.size_alloc, hW0, hR] at this
    exact this)
  obtain ⟨w3, hw3⟩ : ∃ w3, w2.alloc (.cells #[.slice none 0 0, .slice none 0 0, .slice none 0 0, .slice none 0 0, .slice none 0 0, .int .i64 0, .int .i64 0, .int .i64 0, .int .i64 0, .slice none 0 0, .slice none 0 0, .slice none 0 0, .slice none 0 0, .slice none 0 0, .int .i64 0, .int .i64 0] 32) = w3 := ⟨_, rfl⟩
  obtain ⟨Bx, hBx⟩ : ∃ Bx, w2.heap.size = Bx := ⟨_, rfl⟩
  obtain ⟨w4, hw4⟩ : ∃ w4, w3.setCells Bx 0 (bxL s (.slice none 0 0) (.slice none 0 0) (.slice none 0 0) (.slice none 0 0) (.slice none 0 0) (.slice none 0 0) (.slice none 0 0) (.slice none 0 0) (.slice none 0 0) (.slice none 0 0)) = w4 := ⟨_, rfl⟩
  have hb3 : w3.heap[Bx]? = some (.cells #[.slice none 0 0, .slice none 0 0, .slice none 0 0, .slice none 0 0, .slice none 0 0, .int .i64 0, .int .i64 0, .int .i64 0, .int .i64 0, .slice none 0 0, .slice none 0 0, .slice none 0 0, .slice none 0 0, .slice none 0 0, .int .i64 0, .int .i64 0] 32 (0, 0)) := by rw [← hw3, ← hBx]; exact blk_new w2 _
  have HTH : Hid (w3.there Bx 0 16) := Lib.hid (there_row hb3 (Nat.le_refl 16))
  have HB4 : Hid (w4.heap[Bx]? = some (.cells (bxL s (.slice none 0 0) (.slice none 0 0) (.slice none 0 0) (.slice none 0 0) (.slice none 0 0) (.slice none 0 0) (.slice none 0 0) (.slice none 0 0) (.slice none 0 0) (.slice none 0 0)).toArray 32 (0, 0))) := Lib.hid (by rw [← hw4]; exact setCells_at [.slice none 0 0, .slice none 0 0, .slice none 0 0, .slice none 0 0, .slice none 0 0, .int .i64 0, .int .i64 0, .int .i64 0, .int .i64 0, .slice none 0 0, .slice none 0 0, .slice none 0 0, .slice none 0 0, .slice none 0 0, .int .i64 0, .int .i64 0] _ rfl hb3)
  have hx4 : Ext w2 w4 := by rw [← hw4]; exact (Ext.upd (a := w2) (by rw [← hw3]; exact (Ext.refl w2).alloc _) (setCells_upd _ _ _ _) (by omega))
  have HX4 := Lib.hid hx4
  have HKW := Lib.hid hk
  have HRR := Lib.hid hR
  have HW0 := Lib.hid hW0
  have HW2 := Lib.hid hw2
  have HW3 := Lib.hid hw3
  have HW4 := Lib.hid hw4
  have HBX := Lib.hid hBx
  have p5 : w2.cell? ⟨W0, 5, none⟩ = some (.int .i64 s.c0) := st5 HB2.out
  have p6 : w2.cell? ⟨W0, 6, none⟩ = some (.int .i64 s.c1) := st6 HB2.out
  have p7 : w2.cell? ⟨W0, 7, none⟩ = some (.int .i64 s.c2) := st7 HB2.out
  have p8 : w2.cell? ⟨W0, 8, none⟩ = some (.int .i64 s.c3) := st8 HB2.out
  have p14 : w2.cell? ⟨W0, 14, none⟩ = some (.int .i64 s.clock) := st14 HB2.out
  have p15 : w2.cell? ⟨W0, 15, none⟩ = some (.int .i64 s.procs) := st15 HB2.out
  clear hk hf hw2 hx2 hW0 hR hw3 hw4 hb3 hx4 hBx
  unfold stV
  go_enter Try.func16, Try.ntmps16
  go_upto_region 1 with fail
  rw [HW2.out, HW0.out, HRR.out]
  generalize Value.agg #[.slice h.pa s.prog.length h.pc, .slice h.ga s.gs.length h.gc, .slice h.qa s.ps.length h.qc, .slice h.ma s.ms.length h.mc, .slice h.la s.glob.length h.lc, .int .i64 s.c0, .int .i64 s.c1, .int .i64 s.c2, .int .i64 s.c3, .slice h.a0 s.w0.length h.k0, .slice h.a1 s.w1.length h.k1, .slice h.a2 s.w2.length h.k2, .slice h.a3 s.w3.length h.k3, .slice h.ta s.timers.length h.tc, .int .i64 s.clock, .int .i64 s.procs] = sv0
  go_upto_region 2 with (first | rw [HW3.out, HBX.out] | (refine wpList_store_row rfl 32 _ _ rfl Bx (bxL s (.slice none 0 0) (.slice none 0 0) (.slice none 0 0) (.slice none 0 0) (.slice none 0 0) (.slice none 0 0) (.slice none 0 0) (.slice none 0 0) (.slice none 0 0) (.slice none 0 0)) _ rfl rfl rfl HTH.out (by kernel_rfl) (by simp [bxL, Value.oneCell']) HW4.out ?_))
  clear p5 p6 p7 p8 p14 p15
  obtain ⟨M0, hM0⟩ : ∃ M0, w4.heap.size = M0 := ⟨_, rfl⟩
  have HM0 := Lib.hid hM0
  have HLT : Hid (Bx < M0 ∧ R < Bx ∧ W0 < R) := Lib.hid ⟨by rw [← hM0]; exact blk_lt HB4.out, by have := blk_lt HR2.out; have := HBX.out; omega, by have := HRR.out; omega⟩
  have HR4 : Hid (w4.heap[R]? = some (.cells #[.slice none 0 0, .slice none 0 0, .slice none 0 0, .slice none 0 0, .slice none 0 0, .int .i64 0, .int .i64 0, .int .i64 0, .int .i64 0, .slice none 0 0, .slice none 0 0, .slice none 0 0, .slice none 0 0, .slice none 0 0, .int .i64 0, .int .i64 0] 32 (0, 0))) := Lib.hid (HX4.out.blk HR2.out)
  clear hM0
  go_wp2_with fail
  go_loopw [4] (fun iv wr => ∃ k : Nat, k ≤ s.prog.length ∧ iv = .int .i64 k ∧ ∃ A c ns, wr.heap[Bx]? = some (.cells (bxL s (.slice A k c) (.slice none 0 0) (.slice none 0 0) (.slice none 0 0) (.slice none 0 0) (.slice none 0 0) (.slice none 0 0) (.slice none 0 0) (.slice none 0 0) (.slice none 0 0)).toArray 32 (0, 0)) ∧ wr.heap[R]? = some (.cells #[.slice none 0 0, .slice none 0 0, .slice none 0 0, .slice none 0 0, .slice none 0 0, .int .i64 0, .int .i64 0, .int .i64 0, .int .i64 0, .slice none 0 0, .slice none 0 0, .slice none 0 0, .slice none 0 0, .slice none 0 0, .int .i64 0, .int .i64 0] 32 (0, 0)) ∧ PrA wr M0 (.slice A k c) ns s.prog k ∧ Ext w2 wr ∧ M0 ≤ wr.heap.size) (fun iv _ => s.prog.length - (intOf iv).toNat)
  case atStart => exact ⟨0, by omega, rfl, none, 0, [], HB4.out, HR4.out, ⟨OwnRows.nil _ _, rfl, fun i x l h => by simp at h⟩, HX4.out, by rw [HM0.out]; exact Nat.le_refl _⟩
  case round =>
    clear HB4 HR4 HX4
    obtain ⟨k, hk, rfl, A, c, ns, hb, hr, hp, hx, hm⟩ := hrel
    have HB := Lib.hid hb
    have HRB := Lib.hid hr
    have HP := Lib.hid hp
    have HX := Lib.hid hx
    have HM := Lib.hid hm
    clear hb hr hp hx hm
    have q0 : wr.cell? ⟨W0, 0, none⟩ = some (.slice h.pa s.prog.length h.pc) := st0 (HX.out.blk HB2.out)
    by_cases hlt : k < s.prog.length
    · obtain ⟨l, hl⟩ : ∃ l, s.prog[k]? = some l := ⟨_, List.getElem?_eq_getElem hlt⟩
      have hll := HF.out.prog.2 l (List.mem_of_getElem? hl)
      obtain ⟨b, o, B, d, hA, hbw, hcu, hrow⟩ := (HKW.out.ext (HX2.out.trans HX.out)).prog.get hl
      have HPL := Lib.hid hl
      have HROW := Lib.hid hrow
      have K0 : ∀ v, Ext wr v → v.cell? ⟨Bx, 0, none⟩ = some (.slice A k c) := fun v hv => blk_cell (hv.blk HB.out) 0 _ rfl
      have K1 : ∀ v, Ext wr v → v.cell? ⟨W0, 0, none⟩ = some (.slice (some ⟨b, o, none⟩) s.prog.length h.pc) := fun v hv => by rw [← hA]; exact st0 ((HX.out.trans hv).blk HB2.out)
      have K2 : ∀ v, Ext wr v → v.cell? ⟨b, o + k, none⟩ = some (.slice B l.length d) := fun v hv => by rw [Below.cell hv hbw]; exact hcu
      have i0 : (0 : Int) ≤ (k : Int) := by omega
      have i1 : (k : Int) < (s.prog.length : Int) := by omega
      clear hl hrow hcu hbw hA
      go_wp2
      clear q0
      refine region_g 10 (fun v => Ext wr v) (fun v => Ext wr v) (by kernel_rfl) (Ext.refl _).drew ?_
      have HG : ∀ (l : Array Bool) v, Ext wr v → l.getD 10 false = false → Ext wr v := fun _ _ h _ => h
      refine g_take (HG _) (i := 0) (v := ?_) rfl (by kernel_rfl) (by kernel_rfl) (by kernel_rfl) (by kernel_rfl) (by kernel_rfl) (fun _ _ _ h => h) (Still.yes (by kernel_rfl) fun w hS => ?_) ?_
      rotate_left 1
      · skip
        go_simp
        refine gives_mk ?_ rfl
        with_reducible rfl
      refine g_take (HG _) (i := 1) (v := ?_) rfl (by kernel_rfl) (by kernel_rfl) (by kernel_rfl) (by kernel_rfl) (by kernel_rfl) (fun _ _ _ h => h) (Still.yes (by kernel_rfl) fun w hS => ?_) ?_
      rotate_left 1
      · skip
        go_simp
        refine gives_mk ?_ rfl
        with_reducible rfl
      refine g_take (HG _) (i := 3) (v := ?_) rfl (by kernel_rfl) (by kernel_rfl) (by kernel_rfl) (by kernel_rfl) (by kernel_rfl) (fun _ _ _ h => h) (Still.yes (by kernel_rfl) fun w hS => ?_) ?_
      rotate_left 1
      · skip
        go_simp
        refine gives_mk ?_ rfl
        with_reducible rfl
      refine g_take (HG _) (i := 4) (v := ?_) rfl (by kernel_rfl) (by kernel_rfl) (by kernel_rfl) (by kernel_rfl) (by kernel_rfl) (fun _ _ _ h => h) (Still.yes (by kernel_rfl) fun w hS => ?_) ?_
      rotate_left 1
      · skip
        go_simp
        refine gives_mk ?_ rfl
        with_reducible rfl
      refine g_take (HG _) (i := 5) (v := ?_) rfl (by kernel_rfl) (by kernel_rfl) (by kernel_rfl) (by kernel_rfl) (by kernel_rfl) (fun _ _ _ h => h) (Still.yes (by kernel_rfl) fun w hS => ?_) ?_
      rotate_left 1
      · skip
        go_simp
        refine gives_mk ?_ rfl
        with_reducible rfl
      refine g_take (HG _) (i := 6) (v := ?_) rfl (by kernel_rfl) (by kernel_rfl) (by kernel_rfl) (by kernel_rfl) (by kernel_rfl) (fun _ _ _ h => h) (Still.yes (by kernel_rfl) fun w hS => ?_) ?_
      rotate_left 1
      · skip
        go_simp
        refine gives_mk ?_ rfl
        with_reducible rfl
      refine g_take (HG _) (i := 7) (v := ?_) rfl (by kernel_rfl) (by kernel_rfl) (by kernel_rfl) (by kernel_rfl) (by kernel_rfl) (fun _ _ _ h => h) (Still.yes (by kernel_rfl) fun w hS => ?_) ?_
      rotate_left 1
      · skip
        go_simp
        refine gives_mk ?_ rfl
        with_reducible rfl
      refine g_turn (fun v w => (∃ g, v = .slice (some ⟨g, 0, none⟩) 0 0) ∧ OwnRows 68 2 pairL w wr.heap.size v [] ∧ Ext wr w) (k := 2) (by kernel_rfl) (fun _ _ h _ => h.2.2) (fun v hv => ?_)
      refine at_value rfl (by kernel_rfl) (by go_simp; exact ⟨_, _, ⟨rfl, rfl⟩, ⟨_, rfl⟩, World.ownsRow_made (base := wr.heap.size) (e := 68) (size := 2) v #[] 0 hv.size (by decide) rfl, hv.alloc _⟩) ?_
      rintro u ⟨_, ⟨g2, rfl⟩, _⟩
      refine g_turn (fun v w => (∃ A' c', v = .slice A' l.length c') ∧ OwnRows 68 2 pairL w wr.heap.size v l ∧ Ext wr w) (k := 8) (by kernel_rfl) (fun _ _ h _ => h.2.2) (fun v hv => ?_)
      refine at_value rfl (by kernel_rfl) (by
        obtain ⟨A', c', w', hr, ho, hx⟩ := own_instr hv.2.1 (HROW.out.ext hv.2.2) hll hv.2.2.size hv.2.2 rfl
        exact ⟨_, w', run_append_op (.tmp 21) (.tmp 26) 69 rfl _ _ (by go_simp) (by go_simp) hr, ⟨_, _, rfl⟩, ho, hx⟩) ?_
      rintro u ⟨_, ⟨A8, c8, rfl⟩, _⟩
      refine g_turn (fun v w => (∃ g, v = .slice (some ⟨g, 0, none⟩) 1 1 ∧ w.heap[g]? = some (.cells #[.slice A8 l.length c8] 69 (0, 0))) ∧ OwnRows 68 2 pairL w wr.heap.size (.slice A8 l.length c8) l ∧ Ext wr w) (k := 9) (by kernel_rfl) (fun _ _ h _ => h.2.2) (fun v hv => ?_)
      refine at_value rfl (by kernel_rfl) (by go_simp; exact ⟨_, _, ⟨rfl, rfl⟩, ⟨_, rfl, blk_new _ _⟩, hv.2.1.ext ((Ext.refl _).alloc _), hv.2.2.alloc _⟩) ?_
      rintro u ⟨_, ⟨g9, rfl, _⟩, _⟩
      refine g_turn (fun v w => (∃ A' c', v = .slice A' (k + 1) c' ∧ PrA w M0 v (ns ++ [(A8, l.length, c8)]) s.prog (k + 1)) ∧ w.heap[Bx]? = some (.cells (bxL s (.slice A k c) (.slice none 0 0) (.slice none 0 0) (.slice none 0 0) (.slice none 0 0) (.slice none 0 0) (.slice none 0 0) (.slice none 0 0) (.slice none 0 0) (.slice none 0 0)).toArray 32 (0, 0)) ∧ w.heap[R]? = some (.cells #[.slice none 0 0, .slice none 0 0, .slice none 0 0, .slice none 0 0, .slice none 0 0, .int .i64 0, .int .i64 0, .int .i64 0, .int .i64 0, .slice none 0 0, .slice none 0 0, .slice none 0 0, .slice none 0 0, .slice none 0 0, .int .i64 0, .int .i64 0] 32 (0, 0)) ∧ Ext w2 w ∧ M0 ≤ w.heap.size) (k := 10) (by kernel_rfl) (fun _ _ _ hz => absurd hz (by decide +kernel)) (fun v hv => ?_)
      refine at_value rfl (by kernel_rfl) (by
        obtain ⟨⟨g, hg, hgb⟩, ho, hx⟩ := hv
        simp only [Value.slice.injEq, Option.some.injEq, Addr.mk.injEq, and_true] at hg
        subst hg
        obtain ⟨A', c', w', hr, hP, hgr⟩ := HP.out.push hx HM.out (x := (A8, l.length, c8)) HPL.out ho hgb (by omega)
        have hlt' := HLT.out
        have hown : ∀ x, (Value.slice A k c).ownBlock = some x → M0 ≤ x := fun x hx => (HP.out.own.lt x hx).1
        refine ⟨_, w', run_append_op (.tmp 20) (.tmp 28) 23 rfl _ _ (by go_simp) (by go_simp) hr, ⟨_, _, rfl, hP⟩, ?_, ?_, ?_, ?_⟩
        · exact (hgr.block Bx (blk_lt (hx.blk HB.out)) (fun e => by have := hown Bx e.symm; omega)).trans (hx.blk HB.out)
        · exact (hgr.block R (blk_lt (hx.blk HRB.out)) (fun e => by have := hown R e.symm; omega)).trans (hx.blk HRB.out)
        · exact Below.grown (HX.out.trans hx) hgr (HX.out.trans hx).size fun x hx => by have := hown x hx; have := HBX.out; omega
        · exact Nat.le_trans HM.out (Nat.le_trans hx.size hgr.size)) ?_
      rintro u ⟨_, ⟨A10, c10, rfl, _⟩, _⟩
      refine g_free (fun _ _ hz => absurd hz (by decide +kernel)) (i := 11) (v := ?_) rfl (by kernel_rfl) (by kernel_rfl) (by kernel_rfl) (by kernel_rfl) (fun _ _ _ h => h) (Still.yes (by kernel_rfl) fun w hS => ?_) ?_
      rotate_left 1
      · clear hS
        go_simp
        refine gives_mk ?_ rfl
        with_reducible rfl
      refine g_turn (fun v w => PrA w M0 (.slice A10 (k + 1) c10) (ns ++ [(A8, l.length, c8)]) s.prog (k + 1) ∧ w.heap[Bx]? = some (.cells (bxL s (.slice A10 (k + 1) c10) (.slice none 0 0) (.slice none 0 0) (.slice none 0 0) (.slice none 0 0) (.slice none 0 0) (.slice none 0 0) (.slice none 0 0) (.slice none 0 0) (.slice none 0 0)).toArray 32 (0, 0)) ∧ w.heap[R]? = some (.cells #[.slice none 0 0, .slice none 0 0, .slice none 0 0, .slice none 0 0, .slice none 0 0, .int .i64 0, .int .i64 0, .int .i64 0, .int .i64 0, .slice none 0 0, .slice none 0 0, .slice none 0 0, .slice none 0 0, .slice none 0 0, .int .i64 0, .int .i64 0] 32 (0, 0)) ∧ Ext w2 w ∧ M0 ≤ w.heap.size) (k := 12) (by kernel_rfl) (fun _ _ _ hz => absurd hz (by decide +kernel)) (fun v hv => ?_)
      refine at_skip rfl (by kernel_rfl) ?_ ?_
      · obtain ⟨⟨A', c', he, hP⟩, hbx, hrx, hx2, hm2⟩ := hv
        have hlt' := HLT.out
        have hbE := HBX.out
        have N1 := Lib.hid (hP.updB ((Upd.refl Bx v).set 0 (.slice A10 (k + 1) c10)) hlt'.1)
        have N2 : Hid ((v.setCell ⟨Bx, 0, none⟩ (.slice A10 (k + 1) c10)).heap[Bx]? = some (.cells (bxL s (.slice A10 (k + 1) c10) (.slice none 0 0) (.slice none 0 0) (.slice none 0 0) (.slice none 0 0) (.slice none 0 0) (.slice none 0 0) (.slice none 0 0) (.slice none 0 0) (.slice none 0 0)).toArray 32 (0, 0))) := Lib.hid (blk_set hbx 0 _)
        have N3 := Lib.hid (blk_set_other hrx ⟨Bx, 0, none⟩ (by simp only; omega) (.slice A10 (k + 1) c10))
        have N4 := Lib.hid (hx2.setCell (p := ⟨Bx, 0, none⟩) (by simp only; omega) (.slice A10 (k + 1) c10))
        have N5 : Hid (M0 ≤ (v.setCell ⟨Bx, 0, none⟩ (.slice A10 (k + 1) c10)).heap.size) := Lib.hid (Nat.le_trans hm2 (((Upd.refl Bx v).set 0 (.slice A10 (k + 1) c10)).size))
        have z0 : v.cell? ⟨Bx, 0, none⟩ = some (.slice A k c) := blk_cell hbx 0 _ rfl
        have y0 := frozen_of_row _ _ 0 _ _ hbx
        clear he hP hbx hrx hx2 hm2 hlt' hbE K0 K1 K2 HG i0 i1
        refine ⟨v.setCell ⟨Bx, 0, none⟩ (.slice A10 (k + 1) c10), ?_, N1.out, N2.out, N3.out, N4.out, N5.out⟩
        go_simp
      refine g_done (by kernel_rfl) ?_ _
      intro w6 hw6
      have N1 := Lib.hid hw6.1
      have N2 := Lib.hid hw6.2.1
      have N3 := Lib.hid hw6.2.2.1
      have N4 := Lib.hid hw6.2.2.2.1
      have N5 := Lib.hid hw6.2.2.2.2
      clear K0 K1 K2 i0 i1 HG hw6
      go_simp
      go_wp2
      go_roundw
      case rel => exact ⟨k + 1, by omega, by go_num, A10, c10, _, N2.out, N3.out, N1.out, N4.out, N5.out⟩
      case measure => simp [intOf]; omega
    · have HK0 : Hid (k = s.prog.length) := Lib.hid (by omega)
      have HBLT := HLT.out
      obtain ⟨wb0, hwb0⟩ : ∃ wb0, wr = wb0 := ⟨_, rfl⟩
      subst hwb0
      go_upto_region 6 with fail
      clear q0
      -- gs
      have hwk := Lib.hid (HKW.out.ext (HX2.out.trans HX.out)).gs
      obtain ⟨i1, I10, I11, I12, I13⟩ := info_parts Try.infoG
      obtain ⟨wl, hwl⟩ : ∃ wl, wr.alloc (.cells #[] 55) = wl := ⟨_, rfl⟩
      have hxl : Ext wr wl := by rw [← hwl]; exact (Ext.refl wr).alloc _
      have q : wl.cell? ⟨W0, 1, none⟩ = some (.slice h.ga s.gs.length h.gc) := st1 ((HX.out.trans hxl).blk HB2.out)
      have hmade : OwnRows 55 5 gL wl wr.heap.size (.slice (some ⟨wr.heap.size, 0, none⟩) 0 0) [] := by rw [← hwl]; exact World.ownsRow_made (base := wr.heap.size) (e := 55) (size := 5) wr #[] 0 (Nat.le_refl _) (by decide) rfl
      obtain ⟨u, wa1, hr, ho, hg⟩ := OwnRows.append (P := Try.prog) (e := 55) (m := 5) (f := gL) (xs := []) 24 Try.underlying24 I10 I11 I12 I13 rfl (by decide) gL_len gL_one hmade (hwk.out.ext hxl) (by have := HF.out.gs; simp [maxLen]; omega) (by have := HF.out.gs; simp; omega) hxl.size
      have hxa : Ext wr wa1 := OwnRows.grown (W := wr) hmade hxl hg
      obtain ⟨A1, c1, rfl, -⟩ := (OwnRows.rows gL_len ho).form
      have HRUN := Lib.hid hr
      have HWL := Lib.hid hwl
      clear hr hg hmade I10 I11 I12 I13 i1 hwl hxl
      have HO1 := Lib.hid ho
      have HA1 := Lib.hid hxa
      have hba := hxa.blk HB.out
      have hra := hxa.blk HRB.out
      obtain ⟨wb1, hwb⟩ : ∃ wb1, wa1.setCell ⟨Bx, 1, none⟩ (.slice A1 s.gs.length c1) = wb1 := ⟨_, rfl⟩
      have HWB := Lib.hid hwb
      have HB5 : Hid (wb1.heap[Bx]? = some (.cells (bxL s (.slice A k c) (.slice A1 s.gs.length c1) (.slice none 0 0) (.slice none 0 0) (.slice none 0 0) (.slice none 0 0) (.slice none 0 0) (.slice none 0 0) (.slice none 0 0) (.slice none 0 0)).toArray 32 (0, 0))) := Lib.hid (by rw [← hwb]; exact blk_set hba 1 _)
      have HR5 : Hid (wb1.heap[R]? = some (.cells #[.slice none 0 0, .slice none 0 0, .slice none 0 0, .slice none 0 0, .slice none 0 0, .int .i64 0, .int .i64 0, .int .i64 0, .int .i64 0, .slice none 0 0, .slice none 0 0, .slice none 0 0, .slice none 0 0, .slice none 0 0, .int .i64 0, .int .i64 0] 32 (0, 0))) := Lib.hid (by rw [← hwb]; exact blk_set_other hra ⟨Bx, 1, none⟩ (by simp only; omega) _)
      have HU1 : Hid (Upd Bx wa1 wb1) := Lib.hid (by rw [← hwb]; exact (Upd.refl Bx wa1).set 1 _)
      have HX5 : Hid (Ext w2 wb1) := Lib.hid (by rw [← hwb]; exact (HX.out.trans hxa).setCell (p := ⟨Bx, 1, none⟩) (by have := HBX.out; simp only; omega) _)
      have qs : wa1.cell? ⟨Bx, 1, none⟩ = some ((.slice none 0 0)) := blk_cell hba 1 _ rfl
      have qf := frozen_of_row _ _ 1 _ _ hba
      clear ho hxa hba hra hwb
      go_upto_region 7 with (first | rw [HWL.out] | rw [HWB.out] | (at_builtin; refine wpList_append_run rfl _ _ 24 rfl _ _ rfl rfl HRUN.out ?_))
      clear qs qf HWB HRUN HWL hwk q
      -- ps
      have hwk := Lib.hid (HKW.out.ext (HX2.out.trans HX5.out)).ps
      obtain ⟨i2, I20, I21, I22, I23⟩ := info_parts Try.infoP
      obtain ⟨wl, hwl⟩ : ∃ wl, wb1.alloc (.cells #[] 40) = wl := ⟨_, rfl⟩
      have hxl : Ext wb1 wl := by rw [← hwl]; exact (Ext.refl wb1).alloc _
      have q : wl.cell? ⟨W0, 2, none⟩ = some (.slice h.qa s.ps.length h.qc) := st2 ((HX5.out.trans hxl).blk HB2.out)
      have hmade : OwnRows 40 13 pL wl wb1.heap.size (.slice (some ⟨wb1.heap.size, 0, none⟩) 0 0) [] := by rw [← hwl]; exact World.ownsRow_made (base := wb1.heap.size) (e := 40) (size := 13) wb1 #[] 0 (Nat.le_refl _) (by decide) rfl
      obtain ⟨u, wa2, hr, ho, hg⟩ := OwnRows.append (P := Try.prog) (e := 40) (m := 13) (f := pL) (xs := []) 25 Try.underlying25 I20 I21 I22 I23 rfl (by decide) pL_len pL_one hmade (hwk.out.ext hxl) (by have := HF.out.ps; simp [maxLen]; omega) (by have := HF.out.ps; simp; omega) hxl.size
      have hxa : Ext wb1 wa2 := OwnRows.grown (W := wb1) hmade hxl hg
      obtain ⟨A2, c2, rfl, -⟩ := (OwnRows.rows pL_len ho).form
      have HRUN := Lib.hid hr
      have HWL := Lib.hid hwl
      clear hr hg hmade I20 I21 I22 I23 i2 hwl hxl
      have HO2 := Lib.hid ho
      have HA2 := Lib.hid hxa
      have hba := hxa.blk HB5.out
      have hra := hxa.blk HR5.out
      obtain ⟨wb2, hwb⟩ : ∃ wb2, wa2.setCell ⟨Bx, 2, none⟩ (.slice A2 s.ps.length c2) = wb2 := ⟨_, rfl⟩
      have HWB := Lib.hid hwb
      have HB6 : Hid (wb2.heap[Bx]? = some (.cells (bxL s (.slice A k c) (.slice A1 s.gs.length c1) (.slice A2 s.ps.length c2) (.slice none 0 0) (.slice none 0 0) (.slice none 0 0) (.slice none 0 0) (.slice none 0 0) (.slice none 0 0) (.slice none 0 0)).toArray 32 (0, 0))) := Lib.hid (by rw [← hwb]; exact blk_set hba 2 _)
      have HR6 : Hid (wb2.heap[R]? = some (.cells #[.slice none 0 0, .slice none 0 0, .slice none 0 0, .slice none 0 0, .slice none 0 0, .int .i64 0, .int .i64 0, .int .i64 0, .int .i64 0, .slice none 0 0, .slice none 0 0, .slice none 0 0, .slice none 0 0, .slice none 0 0, .int .i64 0, .int .i64 0] 32 (0, 0))) := Lib.hid (by rw [← hwb]; exact blk_set_other hra ⟨Bx, 2, none⟩ (by simp only; omega) _)
      have HU2 : Hid (Upd Bx wa2 wb2) := Lib.hid (by rw [← hwb]; exact (Upd.refl Bx wa2).set 2 _)
      have HX6 : Hid (Ext w2 wb2) := Lib.hid (by rw [← hwb]; exact (HX5.out.trans hxa).setCell (p := ⟨Bx, 2, none⟩) (by have := HBX.out; simp only; omega) _)
      have qs : wa2.cell? ⟨Bx, 2, none⟩ = some ((.slice none 0 0)) := blk_cell hba 2 _ rfl
      have qf := frozen_of_row _ _ 2 _ _ hba
      clear ho hxa hba hra hwb
      go_upto_region 8 with (first | rw [HWL.out] | rw [HWB.out] | (at_builtin; refine wpList_append_run rfl _ _ 25 rfl _ _ rfl rfl HRUN.out ?_))
      clear qs qf HWB HRUN HWL hwk q
      -- ms
      have hwk := Lib.hid (HKW.out.ext (HX2.out.trans HX6.out)).ms
      obtain ⟨i3, I30, I31, I32, I33⟩ := info_parts Try.infoM
      obtain ⟨wl, hwl⟩ : ∃ wl, wb2.alloc (.cells #[] 57) = wl := ⟨_, rfl⟩
      have hxl : Ext wb2 wl := by rw [← hwl]; exact (Ext.refl wb2).alloc _
      have q : wl.cell? ⟨W0, 3, none⟩ = some (.slice h.ma s.ms.length h.mc) := st3 ((HX6.out.trans hxl).blk HB2.out)
      have hmade : OwnRows 57 2 pairL wl wb2.heap.size (.slice (some ⟨wb2.heap.size, 0, none⟩) 0 0) [] := by rw [← hwl]; exact World.ownsRow_made (base := wb2.heap.size) (e := 57) (size := 2) wb2 #[] 0 (Nat.le_refl _) (by decide) rfl
      obtain ⟨u, wa3, hr, ho, hg⟩ := OwnRows.append (P := Try.prog) (e := 57) (m := 2) (f := pairL) (xs := []) 26 Try.underlying26 I30 I31 I32 I33 rfl (by decide) pairL_len pairL_one hmade (hwk.out.ext hxl) (by have := HF.out.ms; simp [maxLen]; omega) (by have := HF.out.ms; simp; omega) hxl.size
      have hxa : Ext wb2 wa3 := OwnRows.grown (W := wb2) hmade hxl hg
      obtain ⟨A3, c3, rfl, -⟩ := (OwnRows.rows pairL_len ho).form
      have HRUN := Lib.hid hr
      have HWL := Lib.hid hwl
      clear hr hg hmade I30 I31 I32 I33 i3 hwl hxl
      have HO3 := Lib.hid ho
      have HA3 := Lib.hid hxa
      have hba := hxa.blk HB6.out
      have hra := hxa.blk HR6.out
      obtain ⟨wb3, hwb⟩ : ∃ wb3, wa3.setCell ⟨Bx, 3, none⟩ (.slice A3 s.ms.length c3) = wb3 := ⟨_, rfl⟩
      have HWB := Lib.hid hwb
      have HB7 : Hid (wb3.heap[Bx]? = some (.cells (bxL s (.slice A k c) (.slice A1 s.gs.length c1) (.slice A2 s.ps.length c2) (.slice A3 s.ms.length c3) (.slice none 0 0) (.slice none 0 0) (.slice none 0 0) (.slice none 0 0) (.slice none 0 0) (.slice none 0 0)).toArray 32 (0, 0))) := Lib.hid (by rw [← hwb]; exact blk_set hba 3 _)
      have HR7 : Hid (wb3.heap[R]? = some (.cells #[.slice none 0 0, .slice none 0 0, .slice none 0 0, .slice none 0 0, .slice none 0 0, .int .i64 0, .int .i64 0, .int .i64 0, .int .i64 0, .slice none 0 0, .slice none 0 0, .slice none 0 0, .slice none 0 0, .slice none 0 0, .int .i64 0, .int .i64 0] 32 (0, 0))) := Lib.hid (by rw [← hwb]; exact blk_set_other hra ⟨Bx, 3, none⟩ (by simp only; omega) _)
      have HU3 : Hid (Upd Bx wa3 wb3) := Lib.hid (by rw [← hwb]; exact (Upd.refl Bx wa3).set 3 _)
      have HX7 : Hid (Ext w2 wb3) := Lib.hid (by rw [← hwb]; exact (HX6.out.trans hxa).setCell (p := ⟨Bx, 3, none⟩) (by have := HBX.out; simp only; omega) _)
      have qs : wa3.cell? ⟨Bx, 3, none⟩ = some ((.slice none 0 0)) := blk_cell hba 3 _ rfl
      have qf := frozen_of_row _ _ 3 _ _ hba
      clear ho hxa hba hra hwb
      go_upto_region 9 with (first | rw [HWL.out] | rw [HWB.out] | (at_builtin; refine wpList_append_run rfl _ _ 26 rfl _ _ rfl rfl HRUN.out ?_))
      clear qs qf HWB HRUN HWL hwk q
      -- glob
      have hwk := Lib.hid (HKW.out.ext (HX2.out.trans HX7.out)).glob
      have q : wb3.cell? ⟨W0, 4, none⟩ = some (.slice h.la s.glob.length h.lc) := st4 (HX7.out.blk HB2.out)
      go_wp2_with fail
      refine (rowninst_any _ s.glob _ hwk.out (by have := HF.out.glob; omega)).mono ?_
      rintro e wa4 ⟨u, rfl, ho, hxa⟩
      obtain ⟨A4, c4, rfl⟩ := ho.form
      have HO4 := Lib.hid ho
      have HA4 := Lib.hid hxa
      have hba := hxa.blk HB7.out
      have hra := hxa.blk HR7.out
      obtain ⟨wb4, hwb⟩ : ∃ wb4, wa4.setCell ⟨Bx, 4, none⟩ (.slice A4 s.glob.length c4) = wb4 := ⟨_, rfl⟩
      have HWB := Lib.hid hwb
      have HB8 : Hid (wb4.heap[Bx]? = some (.cells (bxL s (.slice A k c) (.slice A1 s.gs.length c1) (.slice A2 s.ps.length c2) (.slice A3 s.ms.length c3) (.slice A4 s.glob.length c4) (.slice none 0 0) (.slice none 0 0) (.slice none 0 0) (.slice none 0 0) (.slice none 0 0)).toArray 32 (0, 0))) := Lib.hid (by rw [← hwb]; exact blk_set hba 4 _)
      have HR8 : Hid (wb4.heap[R]? = some (.cells #[.slice none 0 0, .slice none 0 0, .slice none 0 0, .slice none 0 0, .slice none 0 0, .int .i64 0, .int .i64 0, .int .i64 0, .int .i64 0, .slice none 0 0, .slice none 0 0, .slice none 0 0, .slice none 0 0, .slice none 0 0, .int .i64 0, .int .i64 0] 32 (0, 0))) := Lib.hid (by rw [← hwb]; exact blk_set_other hra ⟨Bx, 4, none⟩ (by simp only; omega) _)
      have HU4 : Hid (Upd Bx wa4 wb4) := Lib.hid (by rw [← hwb]; exact (Upd.refl Bx wa4).set 4 _)
      have HX8 : Hid (Ext w2 wb4) := Lib.hid (by rw [← hwb]; exact (HX7.out.trans hxa).setCell (p := ⟨Bx, 4, none⟩) (by have := HBX.out; simp only; omega) _)
      have qs : wa4.cell? ⟨Bx, 4, none⟩ = some ((.slice none 0 0)) := blk_cell hba 4 _ rfl
      have qf := frozen_of_row _ _ 4 _ _ hba
      clear ho hxa hba hra hwb q
      go_upto_region 10 with (rw [HWB.out])
      clear qs qf HWB hwk
      -- timers
      have hwk := Lib.hid (HKW.out.ext (HX2.out.trans HX8.out)).timers
      obtain ⟨i5, I50, I51, I52, I53⟩ := info_parts Try.infoTimer
      obtain ⟨wl, hwl⟩ : ∃ wl, wb4.alloc (.cells #[] 76) = wl := ⟨_, rfl⟩
      have hxl : Ext wb4 wl := by rw [← hwl]; exact (Ext.refl wb4).alloc _
      have q : wl.cell? ⟨W0, 13, none⟩ = some (.slice h.ta s.timers.length h.tc) := st13 ((HX8.out.trans hxl).blk HB2.out)
      have hmade : OwnRows 76 2 pairL wl wb4.heap.size (.slice (some ⟨wb4.heap.size, 0, none⟩) 0 0) [] := by rw [← hwl]; exact World.ownsRow_made (base := wb4.heap.size) (e := 76) (size := 2) wb4 #[] 0 (Nat.le_refl _) (by decide) rfl
      obtain ⟨u, wa5, hr, ho, hg⟩ := OwnRows.append (P := Try.prog) (e := 76) (m := 2) (f := pairL) (xs := []) 30 Try.underlying30 I50 I51 I52 I53 rfl (by decide) pairL_len pairL_one hmade (hwk.out.rows.ext hxl) (by have := HF.out.timers; simp [maxLen]; omega) (by have := HF.out.timers; simp; omega) hxl.size
      have hxa : Ext wb4 wa5 := OwnRows.grown (W := wb4) hmade hxl hg
      obtain ⟨A5, c5, rfl, -⟩ := (OwnRows.rows pairL_len ho).form
      have HRUN := Lib.hid hr
      have HWL := Lib.hid hwl
      clear hr hg hmade I50 I51 I52 I53 i5 hwl hxl
      have HO5 := Lib.hid ho
      have HA5 := Lib.hid hxa
      have hba := hxa.blk HB8.out
      have hra := hxa.blk HR8.out
      obtain ⟨wb5, hwb⟩ : ∃ wb5, wa5.setCell ⟨Bx, 13, none⟩ (.slice A5 s.timers.length c5) = wb5 := ⟨_, rfl⟩
      have HWB := Lib.hid hwb
      have HB9 : Hid (wb5.heap[Bx]? = some (.cells (bxL s (.slice A k c) (.slice A1 s.gs.length c1) (.slice A2 s.ps.length c2) (.slice A3 s.ms.length c3) (.slice A4 s.glob.length c4) (.slice none 0 0) (.slice none 0 0) (.slice none 0 0) (.slice none 0 0) (.slice A5 s.timers.length c5)).toArray 32 (0, 0))) := Lib.hid (by rw [← hwb]; exact blk_set hba 13 _)
      have HR9 : Hid (wb5.heap[R]? = some (.cells #[.slice none 0 0, .slice none 0 0, .slice none 0 0, .slice none 0 0, .slice none 0 0, .int .i64 0, .int .i64 0, .int .i64 0, .int .i64 0, .slice none 0 0, .slice none 0 0, .slice none 0 0, .slice none 0 0, .slice none 0 0, .int .i64 0, .int .i64 0] 32 (0, 0))) := Lib.hid (by rw [← hwb]; exact blk_set_other hra ⟨Bx, 13, none⟩ (by simp only; omega) _)
      have HU5 : Hid (Upd Bx wa5 wb5) := Lib.hid (by rw [← hwb]; exact (Upd.refl Bx wa5).set 13 _)
      have HX9 : Hid (Ext w2 wb5) := Lib.hid (by rw [← hwb]; exact (HX8.out.trans hxa).setCell (p := ⟨Bx, 13, none⟩) (by have := HBX.out; simp only; omega) _)
      have qs : wa5.cell? ⟨Bx, 13, none⟩ = some ((.slice none 0 0)) := blk_cell hba 13 _ rfl
      have qf := frozen_of_row _ _ 13 _ _ hba
      clear ho hxa hba hra hwb
      go_upto_region 11 with (first | rw [HWL.out] | rw [HWB.out] | (at_builtin; refine wpList_append_run rfl _ _ 30 rfl _ _ rfl rfl HRUN.out ?_))
      clear qs qf HWB HRUN HWL hwk q
      obtain ⟨M, hM⟩ : ∃ M, wb5.heap.size = M := ⟨_, rfl⟩
      have HMM := Lib.hid hM
      have hMM : M ≤ wb5.heap.size := by omega
      have hRM : Bx < M := by rw [← hM]; exact blk_lt HB9.out
      have hRw : w2.heap.size ≤ Bx := by have := HBX.out; omega
      have hX9 : Ext w2 wb5 := HX9.out
      have hK9 : CopyK s wb5 Bx M (.slice A k c) (.slice A1 s.gs.length c1) (.slice A2 s.ps.length c2) (.slice A3 s.ms.length c3) (.slice A4 s.glob.length c4) (.slice A5 s.timers.length c5) wb5 := ⟨fun _ _ _ => rfl, ⟨(.slice none 0 0, .slice none 0 0, .slice none 0 0, .slice none 0 0), HB9.out⟩⟩
      clear hM HBLT f1
      go_wp2_with fail
      refine region_rgz ([(3, (fun u => ∃ A c, u = .slice A s.w0.length c : Value → Prop), (fun u w => OwnInts w (u 3).s (u 3).v s.w0 ∧ UnderB (u 3).v (u 3).t ∧ M ≤ (u 3).s ∧ (u 3).s ≤ (u 3).t ∧ (u 3).t ≤ w.heap.size : (Nat → GV) → World → Prop)), (7, (fun u => ∃ A c, u = .slice A s.w1.length c : Value → Prop), (fun u w => OwnInts w (u 7).s (u 7).v s.w1 ∧ UnderB (u 7).v (u 7).t ∧ M ≤ (u 7).s ∧ (u 7).s ≤ (u 7).t ∧ (u 7).t ≤ w.heap.size : (Nat → GV) → World → Prop)), (11, (fun u => ∃ A c, u = .slice A s.w2.length c : Value → Prop), (fun u w => OwnInts w (u 11).s (u 11).v s.w2 ∧ UnderB (u 11).v (u 11).t ∧ M ≤ (u 11).s ∧ (u 11).s ≤ (u 11).t ∧ (u 11).t ≤ w.heap.size : (Nat → GV) → World → Prop)), (15, (fun u => ∃ A c, u = .slice A s.w3.length c : Value → Prop), (fun u w => OwnInts w (u 15).s (u 15).v s.w3 ∧ UnderB (u 15).v (u 15).t ∧ M ≤ (u 15).s ∧ (u 15).s ≤ (u 15).t ∧ (u 15).t ≤ w.heap.size : (Nat → GV) → World → Prop)), (18, (fun u => u = undef : Value → Prop), (fun u w => w.heap[Bx]? = some (.cells (bxL s (.slice A k c) (.slice A1 s.gs.length c1) (.slice A2 s.ps.length c2) (.slice A3 s.ms.length c3) (.slice A4 s.glob.length c4) (u 3).v (u 7).v (u 11).v (u 15).v (.slice A5 s.timers.length c5)).toArray 32 (0, 0)) : (Nat → GV) → World → Prop))]) (w2) (M) (Bx) (18) (CopyK s wb5 Bx M (.slice A k c) (.slice A1 s.gs.length c1) (.slice A2 s.ps.length c2) (.slice A3 s.ms.length c3) (.slice A4 s.glob.length c4) (.slice A5 s.timers.length c5)) ([]) (by kernel_rfl) (by kernel_rfl) ?_ ?_ (by omega) (fun w w2 hl hk => by first | (obtain ⟨x, hx⟩ := hk; exact ⟨x, (hl _ (by omega)).trans hx⟩) | exact hk.low hl (by assumption)) ?_ ?_ ?_ ?_
      · exact List.forall_mem_nil _
      · exact List.forall_mem_cons.2 ⟨⟨⟨_, none, 0, rfl⟩, fun u v w h ht => by show (fun u w => OwnInts w (u 3).s (u 3).v s.w0 ∧ UnderB (u 3).v (u 3).t ∧ M ≤ (u 3).s ∧ (u 3).s ≤ (u 3).t ∧ (u 3).t ≤ w.heap.size : (Nat → GV) → World → Prop) v w; dsimp only; rw [← h 3 (.inl rfl) (by kernel_rfl)]; exact ht, fun u w w2 hx ht => ⟨ht.1.ext hx, ht.2.1, ht.2.2.1, ht.2.2.2.1, Nat.le_trans ht.2.2.2.2 hx.size⟩, List.forall_mem_nil _, fun _ u w w2 hz ht => ⟨ht.1.updB hz (by have := ht.2.2.1; omega), ht.2.1, ht.2.2.1, ht.2.2.2.1, Nat.le_trans ht.2.2.2.2 hz.size⟩⟩, List.forall_mem_cons.2 ⟨⟨⟨_, none, 0, rfl⟩, fun u v w h ht => by show (fun u w => OwnInts w (u 7).s (u 7).v s.w1 ∧ UnderB (u 7).v (u 7).t ∧ M ≤ (u 7).s ∧ (u 7).s ≤ (u 7).t ∧ (u 7).t ≤ w.heap.size : (Nat → GV) → World → Prop) v w; dsimp only; rw [← h 7 (.inl rfl) (by kernel_rfl)]; exact ht, fun u w w2 hx ht => ⟨ht.1.ext hx, ht.2.1, ht.2.2.1, ht.2.2.2.1, Nat.le_trans ht.2.2.2.2 hx.size⟩, List.forall_mem_nil _, fun _ u w w2 hz ht => ⟨ht.1.updB hz (by have := ht.2.2.1; omega), ht.2.1, ht.2.2.1, ht.2.2.2.1, Nat.le_trans ht.2.2.2.2 hz.size⟩⟩, List.forall_mem_cons.2 ⟨⟨⟨_, none, 0, rfl⟩, fun u v w h ht => by show (fun u w => OwnInts w (u 11).s (u 11).v s.w2 ∧ UnderB (u 11).v (u 11).t ∧ M ≤ (u 11).s ∧ (u 11).s ≤ (u 11).t ∧ (u 11).t ≤ w.heap.size : (Nat → GV) → World → Prop) v w; dsimp only; rw [← h 11 (.inl rfl) (by kernel_rfl)]; exact ht, fun u w w2 hx ht => ⟨ht.1.ext hx, ht.2.1, ht.2.2.1, ht.2.2.2.1, Nat.le_trans ht.2.2.2.2 hx.size⟩, List.forall_mem_nil _, fun _ u w w2 hz ht => ⟨ht.1.updB hz (by have := ht.2.2.1; omega), ht.2.1, ht.2.2.1, ht.2.2.2.1, Nat.le_trans ht.2.2.2.2 hz.size⟩⟩, List.forall_mem_cons.2 ⟨⟨⟨_, none, 0, rfl⟩, fun u v w h ht => by show (fun u w => OwnInts w (u 15).s (u 15).v s.w3 ∧ UnderB (u 15).v (u 15).t ∧ M ≤ (u 15).s ∧ (u 15).s ≤ (u 15).t ∧ (u 15).t ≤ w.heap.size : (Nat → GV) → World → Prop) v w; dsimp only; rw [← h 15 (.inl rfl) (by kernel_rfl)]; exact ht, fun u w w2 hx ht => ⟨ht.1.ext hx, ht.2.1, ht.2.2.1, ht.2.2.2.1, Nat.le_trans ht.2.2.2.2 hx.size⟩, List.forall_mem_nil _, fun _ u w w2 hz ht => ⟨ht.1.updB hz (by have := ht.2.2.1; omega), ht.2.1, ht.2.2.1, ht.2.2.2.1, Nat.le_trans ht.2.2.2.2 hz.size⟩⟩, List.forall_mem_cons.2 ⟨⟨⟨_, rfl⟩, fun u v w h ht => by show (fun u w => w.heap[Bx]? = some (.cells (bxL s (.slice A k c) (.slice A1 s.gs.length c1) (.slice A2 s.ps.length c2) (.slice A3 s.ms.length c3) (.slice A4 s.glob.length c4) (u 3).v (u 7).v (u 11).v (u 15).v (.slice A5 s.timers.length c5)).toArray 32 (0, 0)) : (Nat → GV) → World → Prop) v w; dsimp only; rw [← h 3 (.inr (by kernel_rfl)) (by kernel_rfl), ← h 7 (.inr (by kernel_rfl)) (by kernel_rfl), ← h 11 (.inr (by kernel_rfl)) (by kernel_rfl), ← h 15 (.inr (by kernel_rfl)) (by kernel_rfl)]; exact ht, fun u w w2 hx ht => hx.blk ht, List.forall_mem_nil _, fun hne => absurd rfl hne⟩, List.forall_mem_nil _⟩⟩⟩⟩⟩
      · first | assumption | exact Ext.refl _
      · first | assumption | omega
      · assumption
      refine rg_pure (v := ?_) rfl (by kernel_rfl) (by kernel_rfl) (fun w hS hN => ?_) ?_
      rotate_left 1
      · obtain ⟨hS, hM, hK⟩ := hS
        clear hN
        go_simp
        refine givesP_mk ?_
        with_reducible rfl
      refine rg_pure (v := ?_) rfl (by kernel_rfl) (by kernel_rfl) (fun w hS hN => ?_) ?_
      rotate_left 1
      · obtain ⟨hS, hM, hK⟩ := hS
        clear hN
        go_simp
        refine givesP_mk ?_
        with_reducible rfl
      refine rg_pure (v := ?_) rfl (by kernel_rfl) (by kernel_rfl) (fun w hS hN => ?_) ?_
      rotate_left 1
      · obtain ⟨hS, hM, hK⟩ := hS
        have q : w.cell? ⟨W0, 9, none⟩ = some (.slice h.a0 s.w0.length h.k0) := st9 (hS.blk HB2.out)
        clear hN
        go_simp
        refine givesP_mk ?_
        with_reducible rfl
      refine rg_mem (fun u => ∃ A c, u = .slice A s.w0.length c : Value → Prop) (fun u w => OwnInts w (u 3).s (u 3).v s.w0 ∧ UnderB (u 3).v (u 3).t ∧ M ≤ (u 3).s ∧ (u 3).s ≤ (u 3).t ∧ (u 3).t ≤ w.heap.size : (Nat → GV) → World → Prop) (fun _ => Ext) rfl rfl rfl rfl (by kernel_rfl) (by kernel_rfl) (fun w hS hN R hR => ?_) ?_
      · obtain ⟨hS, hM, hK⟩ := hS
        have HR := Lib.hid hR
        clear hR
        (try clear hN)
        go_simp
        refine givesM_call ((rowninst_any _ s.w0 w (HKW.out.ext (HX2.out.trans hS)).w0 (by have := wts_few HF.out.w (i := 0) rfl; omega)).mono ?_)
        rintro e w' ⟨v, rfl, ho, hx⟩
        obtain ⟨A', c', rfl⟩ := ho.form
        exact ⟨_, rfl, HR.out _ _ ⟨_, _, rfl⟩ ⟨ho, ho.underB, hM, hx.size, Nat.le_refl _⟩ hx⟩
      rintro u3 s3 t3 ⟨A6, c6, rfl⟩
      refine rg_pure (v := ?_) rfl (by kernel_rfl) (by kernel_rfl) (fun w hS hN => ?_) ?_
      rotate_left 1
      · obtain ⟨hS, hM, hK⟩ := hS
        clear hN
        go_simp
        refine givesP_mk ?_
        with_reducible rfl
      refine rg_pure (v := ?_) rfl (by kernel_rfl) (by kernel_rfl) (fun w hS hN => ?_) ?_
      rotate_left 1
      · obtain ⟨hS, hM, hK⟩ := hS
        clear hN
        go_simp
        refine givesP_mk ?_
        with_reducible rfl
      refine rg_pure (v := ?_) rfl (by kernel_rfl) (by kernel_rfl) (fun w hS hN => ?_) ?_
      rotate_left 1
      · obtain ⟨hS, hM, hK⟩ := hS
        have q : w.cell? ⟨W0, 10, none⟩ = some (.slice h.a1 s.w1.length h.k1) := st10 (hS.blk HB2.out)
        clear hN
        go_simp
        refine givesP_mk ?_
        with_reducible rfl
      refine rg_mem (fun u => ∃ A c, u = .slice A s.w1.length c : Value → Prop) (fun u w => OwnInts w (u 7).s (u 7).v s.w1 ∧ UnderB (u 7).v (u 7).t ∧ M ≤ (u 7).s ∧ (u 7).s ≤ (u 7).t ∧ (u 7).t ≤ w.heap.size : (Nat → GV) → World → Prop) (fun _ => Ext) rfl rfl rfl rfl (by kernel_rfl) (by kernel_rfl) (fun w hS hN R hR => ?_) ?_
      · obtain ⟨hS, hM, hK⟩ := hS
        have HR := Lib.hid hR
        clear hR
        (try clear hN)
        go_simp
        refine givesM_call ((rowninst_any _ s.w1 w (HKW.out.ext (HX2.out.trans hS)).w1 (by have := wts_few HF.out.w (i := 1) rfl; omega)).mono ?_)
        rintro e w' ⟨v, rfl, ho, hx⟩
        obtain ⟨A', c', rfl⟩ := ho.form
        exact ⟨_, rfl, HR.out _ _ ⟨_, _, rfl⟩ ⟨ho, ho.underB, hM, hx.size, Nat.le_refl _⟩ hx⟩
      rintro u7 s7 t7 ⟨A7, c7, rfl⟩
      refine rg_pure (v := ?_) rfl (by kernel_rfl) (by kernel_rfl) (fun w hS hN => ?_) ?_
      rotate_left 1
      · obtain ⟨hS, hM, hK⟩ := hS
        clear hN
        go_simp
        refine givesP_mk ?_
        with_reducible rfl
      refine rg_pure (v := ?_) rfl (by kernel_rfl) (by kernel_rfl) (fun w hS hN => ?_) ?_
      rotate_left 1
      · obtain ⟨hS, hM, hK⟩ := hS
        clear hN
        go_simp
        refine givesP_mk ?_
        with_reducible rfl
      refine rg_pure (v := ?_) rfl (by kernel_rfl) (by kernel_rfl) (fun w hS hN => ?_) ?_
      rotate_left 1
      · obtain ⟨hS, hM, hK⟩ := hS
        have q : w.cell? ⟨W0, 11, none⟩ = some (.slice h.a2 s.w2.length h.k2) := st11 (hS.blk HB2.out)
        clear hN
        go_simp
        refine givesP_mk ?_
        with_reducible rfl
      refine rg_mem (fun u => ∃ A c, u = .slice A s.w2.length c : Value → Prop) (fun u w => OwnInts w (u 11).s (u 11).v s.w2 ∧ UnderB (u 11).v (u 11).t ∧ M ≤ (u 11).s ∧ (u 11).s ≤ (u 11).t ∧ (u 11).t ≤ w.heap.size : (Nat → GV) → World → Prop) (fun _ => Ext) rfl rfl rfl rfl (by kernel_rfl) (by kernel_rfl) (fun w hS hN R hR => ?_) ?_
      · obtain ⟨hS, hM, hK⟩ := hS
        have HR := Lib.hid hR
        clear hR
        (try clear hN)
        go_simp
        refine givesM_call ((rowninst_any _ s.w2 w (HKW.out.ext (HX2.out.trans hS)).w2 (by have := wts_few HF.out.w (i := 2) rfl; omega)).mono ?_)
        rintro e w' ⟨v, rfl, ho, hx⟩
        obtain ⟨A', c', rfl⟩ := ho.form
        exact ⟨_, rfl, HR.out _ _ ⟨_, _, rfl⟩ ⟨ho, ho.underB, hM, hx.size, Nat.le_refl _⟩ hx⟩
      rintro u11 s11 t11 ⟨A8, c8, rfl⟩
      refine rg_pure (v := ?_) rfl (by kernel_rfl) (by kernel_rfl) (fun w hS hN => ?_) ?_
      rotate_left 1
      · obtain ⟨hS, hM, hK⟩ := hS
        clear hN
        go_simp
        refine givesP_mk ?_
        with_reducible rfl
      refine rg_pure (v := ?_) rfl (by kernel_rfl) (by kernel_rfl) (fun w hS hN => ?_) ?_
      rotate_left 1
      · obtain ⟨hS, hM, hK⟩ := hS
        clear hN
        go_simp
        refine givesP_mk ?_
        with_reducible rfl
      refine rg_pure (v := ?_) rfl (by kernel_rfl) (by kernel_rfl) (fun w hS hN => ?_) ?_
      rotate_left 1
      · obtain ⟨hS, hM, hK⟩ := hS
        have q : w.cell? ⟨W0, 12, none⟩ = some (.slice h.a3 s.w3.length h.k3) := st12 (hS.blk HB2.out)
        clear hN
        go_simp
        refine givesP_mk ?_
        with_reducible rfl
      refine rg_mem (fun u => ∃ A c, u = .slice A s.w3.length c : Value → Prop) (fun u w => OwnInts w (u 15).s (u 15).v s.w3 ∧ UnderB (u 15).v (u 15).t ∧ M ≤ (u 15).s ∧ (u 15).s ≤ (u 15).t ∧ (u 15).t ≤ w.heap.size : (Nat → GV) → World → Prop) (fun _ => Ext) rfl rfl rfl rfl (by kernel_rfl) (by kernel_rfl) (fun w hS hN R hR => ?_) ?_
      · obtain ⟨hS, hM, hK⟩ := hS
        have HR := Lib.hid hR
        clear hR
        (try clear hN)
        go_simp
        refine givesM_call ((rowninst_any _ s.w3 w (HKW.out.ext (HX2.out.trans hS)).w3 (by have := wts_few HF.out.w (i := 3) rfl; omega)).mono ?_)
        rintro e w' ⟨v, rfl, ho, hx⟩
        obtain ⟨A', c', rfl⟩ := ho.form
        exact ⟨_, rfl, HR.out _ _ ⟨_, _, rfl⟩ ⟨ho, ho.underB, hM, hx.size, Nat.le_refl _⟩ hx⟩
      rintro u15 s15 t15 ⟨A9, c9, rfl⟩
      refine rg_pure (v := ?_) rfl (by kernel_rfl) (by kernel_rfl) (fun w hS hN => ?_) ?_
      rotate_left 1
      · obtain ⟨hS, hM, hK⟩ := hS
        clear hN
        go_simp
        refine givesP_mk ?_
        with_reducible rfl
      refine rg_pure (v := ?_) rfl (by kernel_rfl) (by kernel_rfl) (fun w hS hN => ?_) ?_
      rotate_left 1
      · obtain ⟨hS, hM, hK⟩ := hS
        clear hN
        go_simp
        refine givesP_mk ?_
        with_reducible rfl
      refine rg_mem (fun u => u = undef : Value → Prop) (fun u w => w.heap[Bx]? = some (.cells (bxL s (.slice A k c) (.slice A1 s.gs.length c1) (.slice A2 s.ps.length c2) (.slice A3 s.ms.length c3) (.slice A4 s.glob.length c4) (u 3).v (u 7).v (u 11).v (u 15).v (.slice A5 s.timers.length c5)).toArray 32 (0, 0)) : (Nat → GV) → World → Prop) (fun _ w w2 => Upd (Bx) w w2 ∧ (CopyK s wb5 Bx M (.slice A k c) (.slice A1 s.gs.length c1) (.slice A2 s.ps.length c2) (.slice A3 s.ms.length c3) (.slice A4 s.glob.length c4) (.slice A5 s.timers.length c5) : World → Prop) w2) rfl rfl rfl rfl (by kernel_rfl) (by kernel_rfl) (fun w hS hN R hR => ?_) ?_
      · obtain ⟨hS, hM, hK⟩ := hS
        have HR := Lib.hid hR
        clear hR
        obtain ⟨x, hx⟩ := hK.box
        have HXK := Lib.hid hx
        have HKO := Lib.hid hK.old
        clear hx hN hK
        refine givesM_store 29 _ _ rfl Bx 9 (by go_simp) [(.slice A6 s.w0.length c6), (.slice A7 s.w1.length c7), (.slice A8 s.w2.length c8), (.slice A9 s.w3.length c9)] (by go_simp) (bx_there HXK.out) (by kernel_rfl) (by simp [Value.oneCell']) ?_
        exact HR.out _ _ rfl (bx_set4 HXK.out) ⟨setCells_upd _ _ _ _, ⟨fun b hb hne => ((setCells_upd _ _ _ _).block b (Nat.lt_of_lt_of_le hb hM) (fun e => hne (Option.some.inj e))).trans (HKO.out b hb hne), ⟨(_, _, _, _), bx_set4 HXK.out⟩⟩⟩
      rintro u18 s18 t18 rfl
      refine rg_doneA rfl (Nat.le_of_ble_eq_true (by kernel_rfl)) ?_
      intro w8 hS hT hA
      have k0 : Hid (OwnInts w8 s3 (.slice A6 s.w0.length c6) s.w0 ∧ UnderB (.slice A6 s.w0.length c6) t3 ∧ M ≤ s3 ∧ s3 ≤ t3 ∧ t3 ≤ w8.heap.size) := Lib.hid (hT (3, ⟨.slice A6 s.w0.length c6, s3, t3⟩) (by simp))
      have k1 : Hid (OwnInts w8 s7 (.slice A7 s.w1.length c7) s.w1 ∧ UnderB (.slice A7 s.w1.length c7) t7 ∧ M ≤ s7 ∧ s7 ≤ t7 ∧ t7 ≤ w8.heap.size) := Lib.hid (hT (7, ⟨.slice A7 s.w1.length c7, s7, t7⟩) (by simp))
      have k2 : Hid (OwnInts w8 s11 (.slice A8 s.w2.length c8) s.w2 ∧ UnderB (.slice A8 s.w2.length c8) t11 ∧ M ≤ s11 ∧ s11 ≤ t11 ∧ t11 ≤ w8.heap.size) := Lib.hid (hT (11, ⟨.slice A8 s.w2.length c8, s11, t11⟩) (by simp))
      have k3 : Hid (OwnInts w8 s15 (.slice A9 s.w3.length c9) s.w3 ∧ UnderB (.slice A9 s.w3.length c9) t15 ∧ M ≤ s15 ∧ s15 ≤ t15 ∧ t15 ≤ w8.heap.size) := Lib.hid (hT (15, ⟨.slice A9 s.w3.length c9, s15, t15⟩) (by simp))
      have k8 := Lib.hid (hT (18, ⟨undef, s18, t18⟩) (by simp))
      have a3_7 : Hid (t3 ≤ s7 ∨ t7 ≤ s3) := Lib.hid (hA (3, ⟨.slice A6 s.w0.length c6, s3, t3⟩) (by simp) (7, ⟨.slice A7 s.w1.length c7, s7, t7⟩) (by simp) (by simp))
      have a3_11 : Hid (t3 ≤ s11 ∨ t11 ≤ s3) := Lib.hid (hA (3, ⟨.slice A6 s.w0.length c6, s3, t3⟩) (by simp) (11, ⟨.slice A8 s.w2.length c8, s11, t11⟩) (by simp) (by simp))
      have a3_15 : Hid (t3 ≤ s15 ∨ t15 ≤ s3) := Lib.hid (hA (3, ⟨.slice A6 s.w0.length c6, s3, t3⟩) (by simp) (15, ⟨.slice A9 s.w3.length c9, s15, t15⟩) (by simp) (by simp))
      have a7_11 : Hid (t7 ≤ s11 ∨ t11 ≤ s7) := Lib.hid (hA (7, ⟨.slice A7 s.w1.length c7, s7, t7⟩) (by simp) (11, ⟨.slice A8 s.w2.length c8, s11, t11⟩) (by simp) (by simp))
      have a7_15 : Hid (t7 ≤ s15 ∨ t15 ≤ s7) := Lib.hid (hA (7, ⟨.slice A7 s.w1.length c7, s7, t7⟩) (by simp) (15, ⟨.slice A9 s.w3.length c9, s15, t15⟩) (by simp) (by simp))
      have a11_15 : Hid (t11 ≤ s15 ∨ t15 ≤ s11) := Lib.hid (hA (11, ⟨.slice A8 s.w2.length c8, s11, t11⟩) (by simp) (15, ⟨.slice A9 s.w3.length c9, s15, t15⟩) (by simp) (by simp))
      have HS8 := Lib.hid hS.1
      have HKZ := Lib.hid hS.2.2
      have HM8 := Lib.hid hS.2.1
      clear hS hT hA hX9 hK9 hMM hRM hRw
      obtain ⟨h', hh'⟩ : ∃ h' : StH, h' = ⟨A, c, A1, c1, A2, c2, A3, c3, A4, c4, A6, c6, A7, c7, A8, c8, A9, c9, A5, c5⟩ := ⟨_, rfl⟩
      have HHH := Lib.hid hh'
      have HBF : Hid (w8.heap[Bx]? = some (.cells (stL h' s).toArray 32 (0, 0))) := Lib.hid (by
        have e := k8.out
        dsimp only at e
        rw [HK0.out] at e
        rw [hh']
        exact e)
      have HRF : Hid (w8.heap[R]? = some (.cells #[.slice none 0 0, .slice none 0 0, .slice none 0 0, .slice none 0 0, .slice none 0 0, .int .i64 0, .int .i64 0, .int .i64 0, .int .i64 0, .slice none 0 0, .slice none 0 0, .slice none 0 0, .slice none 0 0, .slice none 0 0, .int .i64 0, .int .i64 0] 32 (0, 0))) := Lib.hid (HS8.out.blk HR2.out)
      obtain ⟨wf, hwf⟩ : ∃ wf, w8.setCells R 0 (stL h' s) = wf := ⟨_, rfl⟩
      have HWF := Lib.hid hwf
      have HUF : Hid (Upd R w8 wf) := Lib.hid (by rw [← hwf]; exact setCells_upd _ _ _ _)
      have HRZ : Hid (wf.heap[R]? = some (.cells (stL h' s).toArray 32 (0, 0))) := Lib.hid (by rw [← hwf]; exact setCells_at [.slice none 0 0, .slice none 0 0, .slice none 0 0, .slice none 0 0, .slice none 0 0, .int .i64 0, .int .i64 0, .int .i64 0, .int .i64 0, .slice none 0 0, .slice none 0 0, .slice none 0 0, .slice none 0 0, .slice none 0 0, .int .i64 0, .int .i64 0] (stL h' s) rfl HRF.out)
      have HTHR : Hid (w8.there R 0 (stL h' s).length) := Lib.hid (there_row HRF.out (Nat.le_refl 16))
      have HON := Lib.hid (stL_one h' s)
      clear hh' hwf
      go_simp
      go_wp2_with (first | (refine wpList_load_rowW rfl 32 _ rfl Bx rfl (stL h' s) (stV h' s) rfl _ (range_row HBF.out) Try.underlying32 rfl (by kernel_rfl) ?_) | (refine wpList_store_row rfl 32 _ _ rfl R (stL h' s) (stV h' s) rfl rfl rfl HTHR.out (by kernel_rfl) HON.out HWF.out ?_))
      refine bodyPost_ret (v := .agg (stL h' s).toArray) (results_cell_row rfl _ _ R _ _ _ _ rfl HRZ.out Try.underlying32 rfl (by kernel_rfl)) rfl ?_
      have hRR := HRR.out
      have hW := HW0.out
      have hBX := HBX.out
      obtain ⟨l1, l2, l3⟩ := HLT.out
      have e0 := HM.out
      have e1 := HA1.out.size
      have e2 := HU1.out.size
      have e3 := HA2.out.size
      have e4 := HU2.out.size
      have e5 := HA3.out.size
      have e6 := HU3.out.size
      have e7 := HA4.out.size
      have e8 := HU4.out.size
      have e9 := HA5.out.size
      have e10 := HU5.out.size
      have e11 := HMM.out
      have e12 := HM8.out
      have e13 := HUF.out.size
      have e14 := HX2.out.size
      obtain ⟨o0, b0, d0, f0, g0⟩ := k0.out
      obtain ⟨o1, b1, d1, f1, g1⟩ := k1.out
      obtain ⟨o2, b2, d2, f2, g2⟩ := k2.out
      obtain ⟨o3, b3, d3, f3, g3⟩ := k3.out
      have p01 := a3_7.out
      have p02 := a3_11.out
      have p03 := a3_15.out
      have p12 := a7_11.out
      have p13 := a7_15.out
      have p23 := a11_15.out
      have C5 : Upd Bx wb5 w8 := ⟨HS8.out.os.trans HX9.out.os.symm, HS8.out.tape.trans HX9.out.tape.symm, HS8.out.output.trans HX9.out.output.symm, by omega, fun b hb hne => HKZ.out.old b (by omega) (fun e => hne (by rw [e]))⟩
      have C4 : Upd Bx wa5 w8 := HU5.out.trans C5
      have C3 : Upd Bx wa4 w8 := HU4.out.trans ((Upd.ext HA5.out).trans C4)
      have C2 : Upd Bx wa3 w8 := HU3.out.trans ((Upd.ext HA4.out).trans C3)
      have C1 : Upd Bx wa2 w8 := HU2.out.trans ((Upd.ext HA3.out).trans C2)
      have C0 : Upd Bx wa1 w8 := HU1.out.trans ((Upd.ext HA2.out).trans C1)
      have CP : Upd Bx wr w8 := (Upd.ext HA1.out).trans C0
      have hxz : Ext w wf := (HX2.out.trans HS8.out).upd HUF.out (by omega)
      have hn : NestIn M0 wr.heap.size 2 pairL wr (.slice A s.prog.length c) s.prog := PrA.nest (by have := HP.out; rw [HK0.out] at this; exact this)
      refine ⟨h', rfl, ⟨fun i => if i = 0 then (M0, wr.heap.size) else if i = 1 then (wr.heap.size, wa1.heap.size) else if i = 2 then (wb1.heap.size, wa2.heap.size) else if i = 3 then (wb2.heap.size, wa3.heap.size) else if i = 4 then (wb3.heap.size, wa4.heap.size) else if i = 5 then (s3, t3) else if i = 6 then (s7, t7) else if i = 7 then (s11, t11) else if i = 8 then (s15, t15) else (wb4.heap.size, wa5.heap.size), ?_⟩, hxz⟩
      have hh := HHH.out
      subst hh
      refine ⟨fun i hi => ?_, fun i j hi hj hne => ?_, ?_, ?_, ?_, ?_, ?_, ?_, ?_, ?_, ?_, ?_⟩
      · obtain rfl | rfl | rfl | rfl | rfl | rfl | rfl | rfl | rfl | rfl : i = 0 ∨ i = 1 ∨ i = 2 ∨ i = 3 ∨ i = 4 ∨ i = 5 ∨ i = 6 ∨ i = 7 ∨ i = 8 ∨ i = 9 := by omega
        all_goals
          simp
          omega
      · clear C0 C1 C2 C3 C4 C5 CP hn hxz o0 o1 o2 o3 b0 b1 b2 b3
        obtain rfl | rfl | rfl | rfl | rfl | rfl | rfl | rfl | rfl | rfl : i = 0 ∨ i = 1 ∨ i = 2 ∨ i = 3 ∨ i = 4 ∨ i = 5 ∨ i = 6 ∨ i = 7 ∨ i = 8 ∨ i = 9 := by omega
        all_goals
          obtain rfl | rfl | rfl | rfl | rfl | rfl | rfl | rfl | rfl | rfl : j = 0 ∨ j = 1 ∨ j = 2 ∨ j = 3 ∨ j = 4 ∨ j = 5 ∨ j = 6 ∨ j = 7 ∨ j = 8 ∨ j = 9 := by omega
        all_goals first | exact absurd rfl hne | (simp <;> omega)
      · exact (hn.but (But.upd (S := fun i => i = Bx ∨ i = R) CP (.inl rfl)) (fun b h1 h2 => by omega)).but (But.upd (S := fun i => i = Bx ∨ i = R) HUF.out (.inr rfl)) (fun b h1 h2 => by omega)
      · exact ⟨((HO1.out.updB C0 (by omega)).updB HUF.out (by omega)), HO1.out.underB⟩
      · exact ⟨((HO2.out.updB C1 (by omega)).updB HUF.out (by omega)), HO2.out.underB⟩
      · exact ⟨((HO3.out.updB C2 (by omega)).updB HUF.out (by omega)), HO3.out.underB⟩
      · exact ⟨((HO4.out.updB C3 (by omega)).updB HUF.out (by omega)), HO4.out.underB⟩
      · exact ⟨o0.updB HUF.out (by omega), b0⟩
      · exact ⟨o1.updB HUF.out (by omega), b1⟩
      · exact ⟨o2.updB HUF.out (by omega), b2⟩
      · exact ⟨o3.updB HUF.out (by omega), b3⟩
      · exact ⟨((HO5.out.updB C4 (by omega)).updB HUF.out (by omega)), HO5.out.underB⟩
section
variable {P : Program}
theorem run_part_agg {e : TypeId} {d : TypeDesc} {i : TypeInfo} (hu : P.underlying e = some d) (hd : d.isRow = true) (hi : P.info? e = some i) (xs : Array Value) (off : Nat) (w : World) : (part e xs off).run P w = .ok (.agg (xs.extract off (off + P.cellsOf e))) w := by
  cases d <;> first | (simp [TypeDesc.isRow] at hd; done) | simp [part, isAgg, run_underlying hu, run_sizeOf w hi]
theorem run_part_aggN {e : TypeId} {d : TypeDesc} {i : TypeInfo} (n : Nat) (hc : P.cellsOf e = n) (hu : P.underlying e = some d) (hd : d.isRow = true) (hi : P.info? e = some i) (xs : Array Value) (off : Nat) (w : World) : (part e xs off).run P w = .ok (.agg (xs.extract off (off + n))) w := by
  subst hc
  exact run_part_agg hu hd hi xs off w
theorem run_eqFields_all (d : Nat) (xs ys : Array Value) (R : Nat → Bool) (w : World) : ∀ fs : List Field, (∀ f ∈ fs, f.name ≠ "_" ∧ ∃ a b, (part f.type xs f.offset).run P w = .ok a w ∧ (part f.type ys f.offset).run P w = .ok b w ∧ (Op.equalIn d f.type a b).run P w = .ok (R f.offset) w) →
    (Op.eqFields d xs ys fs).run P w = .ok (fs.all fun f => R f.offset) w
  | [], _ => by simp [Op.eqFields]
  | f :: fs, h => by
    obtain ⟨hn, a, b, p1, p2, p3⟩ := h f (by simp)
    have ih := run_eqFields_all d xs ys R w fs fun g hg => h g (by simp [hg])
    simp only [Op.eqFields, hn, ne_eq, not_false_eq_true, if_true, Sem.run_bind, p1, p2, p3, Result.andThen_ok, List.all_cons]
    cases hr : R f.offset with
    | false => simp
    | true => simpa using ih
def FieldsAre (P : Program) (t : TypeId) (fs : List (TypeId × Nat)) : Bool := !P.stoodInHeld t && (P.fieldsOf t).toList.all (fun e => e.name != "_") && (P.fieldsOf t).toList.map (fun e => (e.type, e.offset)) == fs
theorem run_eqStruct {t : TypeId} (ht : P.underlying t = some (.struct (P.fieldsOf t))) (fs : List (TypeId × Nat)) (hs : FieldsAre P t fs = true) (d : Nat) (xs ys : Array Value) (R : Nat → Bool) (w : World)
    (h : ∀ f ∈ fs, ∃ a b, (part f.1 xs f.2).run P w = .ok a w ∧ (part f.1 ys f.2).run P w = .ok b w ∧ (Op.equalIn d f.1 a b).run P w = .ok (R f.2) w) : (Op.equalIn (d + 1) t (.agg xs) (.agg ys)).run P w = .ok (fs.all fun f => R f.2) w := by
  unfold FieldsAre at hs
  simp only [Bool.and_eq_true, Bool.not_eq_true', beq_iff_eq] at hs
  obtain ⟨⟨h1, h2⟩, h3⟩ := hs
  rw [run_equalIn_struct w d _ _ _ ht h1, run_eqFields_all d xs ys R w _ fun f hf => by
    have hn := List.all_eq_true.1 h2 f hf
    refine ⟨by simpa using hn, ?_⟩
    exact h (f.type, f.offset) (by rw [← h3]; exact List.mem_map_of_mem hf)]
  congr 1
  rw [← h3, List.all_map]
  rfl
theorem run_eqItems_all (d : Nat) (e : TypeId) (m : Nat) (xs ys : Array Value) (R : Nat → Bool) (w : World) : ∀ is : List Nat, (∀ i ∈ is, ∃ a b, (part e xs (i * m)).run P w = .ok a w ∧ (part e ys (i * m)).run P w = .ok b w ∧ (Op.equalIn d e a b).run P w = .ok (R i) w) →
    (Op.eqItems d e m xs ys is).run P w = .ok (is.all R) w
  | [], _ => by simp [Op.eqItems]
  | i :: is, h => by
    obtain ⟨a, b, p1, p2, p3⟩ := h i (by simp)
    have ih := run_eqItems_all d e m xs ys R w is fun j hj => h j (by simp [hj])
    simp only [Op.eqItems, Sem.run_bind, p1, p2, p3, Result.andThen_ok, List.all_cons]
    cases hr : R i with
    | false => simp
    | true => simpa using ih
theorem run_eqArr {t ti : TypeId} (n : Nat) (ht : P.underlying t = some (.array n ti)) (hi : P.underlying ti = some (.int .i64)) (hp : P.plainKey ti = true) (hc : P.cellsOf ti = 1) (d : Nat) (f g : List Int) (hf : f.length = n) (hg : g.length = n) (w : World) :
    (Op.equalIn (d + 2) t (.agg (f.map (Value.int .i64)).toArray) (.agg (g.map (Value.int .i64)).toArray)).run P w = .ok (decide (f = g)) w := by
  obtain ⟨i, hii⟩ := info_of_underlying hi
  rw [run_equalIn_array w (d + 1) _ _ ht hii, hc, run_eqItems_all (d + 1) ti 1 _ _ (fun j => f.getD j 0 == g.getD j 0) w _ fun j hj => by
    have hj' := List.mem_range.1 hj
    refine ⟨.int .i64 (f.getD j 0), .int .i64 (g.getD j 0), run_part_plain w hp ?_, run_part_plain w hp ?_, run_equalIn_int w d ti .i64 .i64 _ _ hi⟩
    · rw [Nat.mul_one, List.getElem?_toArray, List.getElem?_map, List.getElem?_eq_getElem (by omega)]; simp [List.getD, List.getElem?_eq_getElem (show j < f.length by omega)]
    · rw [Nat.mul_one, List.getElem?_toArray, List.getElem?_map, List.getElem?_eq_getElem (by omega)]; simp [List.getD, List.getElem?_eq_getElem (show j < g.length by omega)]]
  congr 1
  rw [Bool.eq_iff_iff, List.all_eq_true, decide_eq_true_eq]
  constructor
  · intro h
    apply List.ext_getElem (by omega)
    intro i hi1 hi2
    have := h i (List.mem_range.2 (by omega))
    simpa [List.getD, List.getElem?_eq_getElem hi1, List.getElem?_eq_getElem hi2] using this
  · rintro rfl i _
    simp
end
theorem run_eqGr (a b c d e a' b' c' d' e' : Int) (w : World) : (Op.equalIn 10000 55 (.agg #[.int .i64 a, .int .i64 b, .int .i64 c, .int .i64 d, .int .i64 e]) (.agg #[.int .i64 a', .int .i64 b', .int .i64 c', .int .i64 d', .int .i64 e'])).run Try.prog w = .ok (decide ([a, b, c, d, e] = [a', b', c', d', e'])) w :=
  run_eqInts (ti := 3) Try.underlying3 (by kernel_rfl) (by kernel_rfl) 5 (by kernel_rfl) [a, b, c, d, e] [a', b', c', d', e'] rfl rfl w
theorem run_eqM (a b a' b' : Int) (w : World) : (Op.equalIn 10000 57 (.agg #[.int .i64 a, .int .i64 b]) (.agg #[.int .i64 a', .int .i64 b'])).run Try.prog w = .ok (decide ([a, b] = [a', b'])) w :=
  run_eqInts (ti := 3) Try.underlying3 (by kernel_rfl) (by kernel_rfl) 2 (by kernel_rfl) [a, b] [a', b'] rfl rfl w
theorem run_eqInstr (a b a' b' : Int) (w : World) : (Op.equalIn 10000 68 (.agg #[.int .i64 a, .int .i64 b]) (.agg #[.int .i64 a', .int .i64 b'])).run Try.prog w = .ok (decide ([a, b] = [a', b'])) w :=
  run_eqInts (ti := 3) Try.underlying3 (by kernel_rfl) (by kernel_rfl) 2 (by kernel_rfl) [a, b] [a', b'] rfl rfl w
theorem run_eq4 (a0 a1 a2 a3 b0 b1 b2 b3 : Int) (w : World) : (Op.equalIn 10000 28 (.agg #[.int .i64 a0, .int .i64 a1, .int .i64 a2, .int .i64 a3]) (.agg #[.int .i64 b0, .int .i64 b1, .int .i64 b2, .int .i64 b3])).run Try.prog w = .ok (decide ([a0, a1, a2, a3] = [b0, b1, b2, b3])) w :=
  run_eqArr 4 Try.underlying28 Try.underlying3 (by kernel_rfl) (by kernel_rfl) 9998 [a0, a1, a2, a3] [b0, b1, b2, b3] rfl rfl w
set_option maxRecDepth 100000 in
theorem run_eqRi (d : Nat) (a0 a1 a2 a3 a4 a5 a6 a7 a8 a9 b0 b1 b2 b3 b4 b5 b6 b7 b8 b9 : Int) (w : World) : (Op.equalIn (d + 3) 38 (.agg #[.int .i64 a0, .int .i64 a1, .int .i64 a2, .int .i64 a3, .int .i64 a4, .int .i64 a5, .int .i64 a6, .int .i64 a7, .int .i64 a8, .int .i64 a9]) (.agg #[.int .i64 b0, .int .i64 b1, .int .i64 b2, .int .i64 b3, .int .i64 b4, .int .i64 b5, .int .i64 b6, .int .i64 b7, .int .i64 b8, .int .i64 b9])).run Try.prog w = .ok (decide ([a0, a1, a2, a3, a4, a5, a6, a7, a8, a9] = [b0, b1, b2, b3, b4, b5, b6, b7, b8, b9])) w := by
  obtain ⟨i, hi⟩ := info_of_underlying Try.underlying36
  have c8 : Try.prog.cellsOf 36 = 8 := by kernel_rfl
  have p1 := run_part_aggN 8 c8 Try.underlying36 rfl hi #[.int .i64 a0, .int .i64 a1, .int .i64 a2, .int .i64 a3, .int .i64 a4, .int .i64 a5, .int .i64 a6, .int .i64 a7, .int .i64 a8, .int .i64 a9] 0 w
  have p2 := run_part_aggN 8 c8 Try.underlying36 rfl hi #[.int .i64 b0, .int .i64 b1, .int .i64 b2, .int .i64 b3, .int .i64 b4, .int .i64 b5, .int .i64 b6, .int .i64 b7, .int .i64 b8, .int .i64 b9] 0 w
  refine (run_eqStruct (P := Try.prog) Try.underlying38 [(36, 0), (3, 8), (3, 9)] (by kernel_rfl) (d + 2) _ _ (fun o => if o = 0 then decide ([a0, a1, a2, a3, a4, a5, a6, a7] = [b0, b1, b2, b3, b4, b5, b6, b7]) else if o = 8 then a8 == b8 else a9 == b9) w fun f hf => by
    simp only [List.mem_cons, List.not_mem_nil, or_false] at hf
    rcases hf with rfl | rfl | rfl
    · exact ⟨_, _, p1, p2, run_eqArr 8 Try.underlying36 Try.underlying3 (by kernel_rfl) (by kernel_rfl) d [a0, a1, a2, a3, a4, a5, a6, a7] [b0, b1, b2, b3, b4, b5, b6, b7] rfl rfl w⟩
    · exact ⟨_, _, run_part_plain w (by kernel_rfl) rfl, run_part_plain w (by kernel_rfl) rfl, run_equalIn_int w _ _ .i64 .i64 _ _ Try.underlying3⟩
    · exact ⟨_, _, run_part_plain w (by kernel_rfl) rfl, run_part_plain w (by kernel_rfl) rfl, run_equalIn_int w _ _ .i64 .i64 _ _ Try.underlying3⟩).trans ?_
  congr 1
  rw [Bool.eq_iff_iff]
  simp [and_assoc]
set_option maxRecDepth 100000 in
theorem run_eqPr (a0 a1 a2 a3 a4 a5 a6 a7 a8 a9 a10 a11 a12 b0 b1 b2 b3 b4 b5 b6 b7 b8 b9 b10 b11 b12 : Int) (w : World) : (Op.equalIn 10000 40 (.agg #[.int .i64 a0, .int .i64 a1, .int .i64 a2, .int .i64 a3, .int .i64 a4, .int .i64 a5, .int .i64 a6, .int .i64 a7, .int .i64 a8, .int .i64 a9, .int .i64 a10, .int .i64 a11, .int .i64 a12]) (.agg #[.int .i64 b0, .int .i64 b1, .int .i64 b2, .int .i64 b3, .int .i64 b4, .int .i64 b5, .int .i64 b6, .int .i64 b7, .int .i64 b8, .int .i64 b9, .int .i64 b10, .int .i64 b11, .int .i64 b12])).run Try.prog w = .ok (decide ([a0, a1, a2, a3, a4, a5, a6, a7, a8, a9, a10, a11, a12] = [b0, b1, b2, b3, b4, b5, b6, b7, b8, b9, b10, b11, b12])) w := by
  obtain ⟨i, hi⟩ := info_of_underlying Try.underlying38
  have c8 : Try.prog.cellsOf 38 = 10 := by kernel_rfl
  have p1 := run_part_aggN 10 c8 Try.underlying38 rfl hi #[.int .i64 a0, .int .i64 a1, .int .i64 a2, .int .i64 a3, .int .i64 a4, .int .i64 a5, .int .i64 a6, .int .i64 a7, .int .i64 a8, .int .i64 a9, .int .i64 a10, .int .i64 a11, .int .i64 a12] 2 w
  have p2 := run_part_aggN 10 c8 Try.underlying38 rfl hi #[.int .i64 b0, .int .i64 b1, .int .i64 b2, .int .i64 b3, .int .i64 b4, .int .i64 b5, .int .i64 b6, .int .i64 b7, .int .i64 b8, .int .i64 b9, .int .i64 b10, .int .i64 b11, .int .i64 b12] 2 w
  refine (run_eqStruct (P := Try.prog) Try.underlying40 [(3, 0), (3, 1), (38, 2), (3, 12)] (by kernel_rfl) 9999 _ _ (fun o => if o = 0 then a0 == b0 else if o = 1 then a1 == b1 else if o = 2 then decide ([a2, a3, a4, a5, a6, a7, a8, a9, a10, a11] = [b2, b3, b4, b5, b6, b7, b8, b9, b10, b11]) else a12 == b12) w fun f hf => by
    simp only [List.mem_cons, List.not_mem_nil, or_false] at hf
    rcases hf with rfl | rfl | rfl | rfl
    · exact ⟨_, _, run_part_plain w (by kernel_rfl) rfl, run_part_plain w (by kernel_rfl) rfl, run_equalIn_int w _ _ .i64 .i64 _ _ Try.underlying3⟩
    · exact ⟨_, _, run_part_plain w (by kernel_rfl) rfl, run_part_plain w (by kernel_rfl) rfl, run_equalIn_int w _ _ .i64 .i64 _ _ Try.underlying3⟩
    · exact ⟨_, _, p1, p2, run_eqRi 9996 a2 a3 a4 a5 a6 a7 a8 a9 a10 a11 b2 b3 b4 b5 b6 b7 b8 b9 b10 b11 w⟩
    · exact ⟨_, _, run_part_plain w (by kernel_rfl) rfl, run_part_plain w (by kernel_rfl) rfl, run_equalIn_int w _ _ .i64 .i64 _ _ Try.underlying3⟩).trans ?_
  congr 1
  rw [Bool.eq_iff_iff]
  simp [and_assoc]
end Go.Proofs.Ytogcfndhcphpaaa
