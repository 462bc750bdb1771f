/-
  Several texts in one: Hzh, Hzk, Hzi, Te, Tf, Tg, Tl, Tr.
-/
import Derived.Test.YtdcbaddndoilfaaE10
import Derived.Test.YtdcbaddndoilfaaE04
import Derived.Test.YtdcbaddndoilfaaE05
import Derived.Test.YtdcbaddndoilfaaE06
set_option linter.unusedVariables false
set_option linter.unusedSimpArgs false
namespace Go.Proofs.Ytdcbaddndoilfaa
open Go.RowKit
namespace Md
theorem ask_timed (t t' : Int) (ps : List (Int × Int)) (gs : List Gs4) (l : Lg) : ask ⟨t, ps, gs⟩ l = ask ⟨t', ps, gs⟩ l := rfl
theorem thn_timed (t t' : Int) (ps : List (Int × Int)) (gs : List Gs4) (l : Lg) : thn ⟨t, ps, gs⟩ l = { thn ⟨t', ps, gs⟩ l with time := t } := by
  unfold thn
  simp only
  repeat' split
  all_goals rfl
end Md
theorem range_pre {w : World} {g : Nat} {T : TypeId} {cs ds : List Value} {fr : Nat × Nat} (h : w.heap[g]? = some (.cells (cs ++ ds).toArray T fr)) : w.rangeAt g 0 cs := fun j v hv => by
  refine range_row h j v ?_
  rw [List.getElem?_append_left (List.getElem?_eq_some_iff.1 hv).1]
  exact hv
def TrO {α : Type} (e : TypeId) (m : Nat) (f : α → List Value) (B : Nat) (w : World) (u : GV) (xs : List α) : Prop := OwnRows e m f w B u.v xs ∧ ∀ k, u.v.ownBlock = some k → u.s ≤ k ∧ k < u.t
theorem TrO.ext {α : Type} {e : TypeId} {m : Nat} {f : α → List Value} {B : Nat} {w w' : World} {u : GV} {xs : List α} (h : TrO e m f B w u xs) (hx : Ext w w') : TrO e m f B w' u xs := ⟨h.1.ext hx, h.2⟩
theorem TrO.of {α : Type} {e : TypeId} {m : Nat} {f : α → List Value} {B s : Nat} {w : World} {v : Value} {xs : List α} (h : OwnRows e m f w s v xs) (hB : B ≤ s) : TrO e m f B w ⟨v, s, w.heap.size⟩ xs := ⟨World.ownsRow.mono h hB, h.lt⟩
theorem rows_off1 {α : Type} {m : Nat} {f : α → List Value} {w w' : World} {v : Value} {xs : List α} {R : Nat} {s1 : Value} {T : TypeId} {fr : Nat × Nat} (h : RowsAt m f w v xs) (hf : ∀ x, ∃ (a b : Int) (r : List Value), f x = .int .i64 a :: .int .i64 b :: r)
    (hb : w.heap[R]? = some (.cells #[s1] T fr)) (hu : Upd R w w') : RowsAt m f w' v xs := by
  obtain ⟨A, c, hv, hc, hA⟩ := h
  refine ⟨A, c, hv, hc, fun h0 => ?_⟩
  obtain ⟨b, o, hAe, hlt, hcell⟩ := hA h0
  have hne : b ≠ R := fun e => by
    subst e
    obtain ⟨x, hx⟩ : ∃ x, xs[0]? = some x := ⟨_, List.getElem?_eq_getElem h0⟩
    obtain ⟨p, q, r, hfx⟩ := hf x
    have k1 := hcell 0 x hx 1 (.int .i64 q) (by rw [hfx]; rfl)
    rw [show o + 0 * m + 1 = o + 1 by omega] at k1
    rw [cell_of_row w b (o + 1) _ _ _ hb, Array.getElem?_eq_none (by simp)] at k1
    cases k1
  refine ⟨b, o, hAe, Nat.lt_of_lt_of_le hlt hu.size, fun j x hx i u hui => ?_⟩
  rw [World.cell?_of_block (hu.block b hlt (fun e => by injection e with e; exact hne e))]
  exact hcell j x hx i u hui
theorem app_yes {a : Act} {w w' : World} {S R : Nat} {time : Int} {A B : Option Addr} {c d : Nat} {y : Sn} (hd : a.defers = [{ target := Target.fn (Fn.func 22) #[.pointer (some ⟨S, 0, none⟩), .pointer (some ⟨R, 0, none⟩)], args := #[] }]) (h4 : a.tmps.getD 4 undef = .pointer (some ⟨S, 0, none⟩)) (h5 : a.tmps.getD 5 undef = .pointer (some ⟨R, 0, none⟩))
    (hx : Ext w w') (hS : w'.heap[S]? = some (.cells #[.int .i64 time, .slice A y.ps.length c, .slice B y.gs.length d] 25 (0, 0))) (hR : w'.heap[R]? = some (.cells #[.bool true] 4 (0, 0))) (hs : SnAt w' (.agg #[.int .i64 time, .slice A y.ps.length c, .slice B y.gs.length d]) y) : bodyPostD Try.prog Try.f10 (fun e w' => SnApp w (some y) e w') Exit.ret a w' := by
  obtain ⟨tm, df⟩ := a
  simp only at hd h4 h5
  subst hd
  refine leaves_cons (f := 22) (args := #[.pointer (some ⟨S, 0, none⟩), .pointer (some ⟨R, 0, none⟩)]) (by simp) (by simp [go_sem]) ?_
  refine (apply1_idle _ _ _).mono ?_
  rintro e u' w4 ⟨rfl, rfl, hw4⟩
  have hw5 := hw4.symm
  clear hw4
  subst hw5
  have hsr := run_loadVar_row (P := Try.prog) w' _ 25 25 _ _ _ hS Try.underlying25 rfl (by kernel_rfl)
  have hbr := blk_cell hR 0 _ rfl
  have HX5 := Lib.hid hx
  have HSN := Lib.hid hs
  clear hx hs hS hR
  rw [Array.getD_eq_getD_getElem?] at h4 h5
  simp [Leaves, settle, results, Try.results10, h4, h5]
  simp only [asAddr, Sem.run_pure, Result.andThen_ok, hsr]
  simp [hbr, go_sem]
  exact ⟨_, rfl, HSN.out, HX5.out⟩
theorem app_store {w w2 : World} {S R : Nat} {A B : Option Addr} {c d : Nat} {y : Sn} {b0 : Value} (hx : Ext w w2) (hS : w2.heap[S]? = some (.cells #[.int .i64 0, .slice none 0 0, .slice none 0 0] 25 (0, 0))) (hR : w2.heap[R]? = some (.cells #[b0] 4 (0, 0))) (h1 : w.heap.size ≤ S) (h2 : w.heap.size ≤ R) (hne : S ≠ R) (hs : SnAt w2 (.agg #[.int .i64 y.time, .slice A y.ps.length c, .slice B y.gs.length d]) y) :
    w2.there S 0 [Value.int .i64 y.time, .slice A y.ps.length c, .slice B y.gs.length d].length ∧ ∃ w6, w2.setCells S 0 [.int .i64 y.time, .slice A y.ps.length c, .slice B y.gs.length d] = w6 ∧ w6.cell? ⟨R, 0, none⟩ = some b0 ∧ w6.frozen? ⟨R, 0, none⟩ = false ∧ ∃ w7, w6.setCell ⟨R, 0, none⟩ (.bool true) = w7 ∧ Ext w w7 ∧ w7.heap[S]? = some (.cells #[.int .i64 y.time, .slice A y.ps.length c, .slice B y.gs.length d] 25 (0, 0)) ∧ w7.heap[R]? = some (.cells #[.bool true] 4 (0, 0)) ∧ SnAt w7 (.agg #[.int .i64 y.time, .slice A y.ps.length c, .slice B y.gs.length d]) y := by
  have hu1 := setCells_upd S [Value.int .i64 y.time, .slice A y.ps.length c, .slice B y.gs.length d] w2 0
  obtain ⟨hth, w6, hw6, hb6, u, hu, hs6, hx6⟩ := sn_lay hx h1 hS hs
  injection hu with hu
  subst hu
  have hR6 : w6.heap[R]? = some (.cells #[b0] 4 (0, 0)) := by rw [← hw6]; exact (hu1.block R (blk_lt hR) (fun e => hne (by injection e with e; exact e.symm))).trans hR
  have hu2 : Upd R w6 (w6.setCell ⟨R, 0, none⟩ (.bool true)) := setCells_upd R [.bool true] _ 0
  refine ⟨hth, w6, hw6, blk_cell hR6 0 _ rfl, frozen_of_row _ _ 0 _ _ hR6, _, rfl, Ext.upd hx6 hu2 h2, ?_, by simpa using blk_set hR6 0 (.bool true), ?_⟩
  · rw [hu2.block S (blk_lt hb6) (fun e => hne (by injection e))]; exact hb6
  · obtain ⟨A', c', B', d', hv, h3, h4⟩ := hs6
    exact ⟨A', c', B', d', hv, rows_off1 h3 snP_two hR6 hu2, rows_off1 h4 snG_two hR6 hu2⟩
set_option maxRecDepth 100000 in
set_option maxHeartbeats 16000000 in
theorem mApply_yes (v : Value) (x : Sn) (l : Lg) (wy st : Value) (w : World) (hs : SnAt w v x) (hp : x.ps.length ≤ 1000) (hg : x.gs.length ≤ 1000) (hyes : 0 < l.m ∧ x.time ≤ l.time ∧ x.may = true) :
    Calls Try.prog 10 #[v, lgV l wy st] w (SnApp w (Md.app x l)) := by
  have hmi := (Sn.may_iff x).1 hyes.2.2
  have hri := (Md.rises_may hyes.2.2).1
  obtain ⟨A, c, B, d, rfl, h2, h3⟩ := hs
  obtain ⟨time, ps, gs⟩ := x
  obtain ⟨lt, lm, kd, lg, lp, ls⟩ := l
  simp only at h2 h3 hyes hp hg hmi hri ⊢
  have HSQ : Hid ((∀ q ∈ ps, 0 ≤ q.2 ∧ q.2 < 4611686018427387904) ∧ ∀ q ∈ gs, 0 ≤ q.2.2.2 ∧ q.2.2.2 < 4611686018427387904) := Lib.hid (by
    obtain ⟨_, _, _, k1, _, k2, _⟩ := hmi
    refine ⟨fun q hq => ?_, fun q hq => ?_⟩
    · have := k1 q hq
      unfold snPOk at this
      simp only [Bool.and_eq_true, snNum_iff] at this
      exact this.2
    · have := k2 q hq
      unfold snGOk at this
      simp only [Bool.and_eq_true, snNum_iff] at this
      exact this.2)
  have HRI := Lib.hid hri
  clear hmi hri
  have hmf : ∀ (fn : Fn) (first cap : Array Value) (w : World), (Instr.makeFunc fn first cap).run Try.prog w = .ok (.func fn first cap) w := fun _ _ _ _ => rfl
  have HP : Hid (ps.length ≤ 1000) := Lib.hid hp
  have HG : Hid (gs.length ≤ 1000) := Lib.hid hg
  have K1 := Lib.hid hyes.1
  have K2 := Lib.hid hyes.2.1
  have K3 := Lib.hid hyes.2.2
  have e1 : decide (0 < lm) = true := decide_eq_true hyes.1
  have e2 : decide (time ≤ lt) = true := decide_eq_true hyes.2.1
  clear hyes hp hg
  unfold lgV
  go_enter_defers Try.func10, Try.ntmps10
  go_upto_region 2 with fail
  obtain ⟨w1, hw1, hx1, hb1, hl1, hz1, ht1⟩ := app_four w #[.int .i64 time, .slice A ps.length c, .slice B gs.length d] 25 #[.int .i64 lt, .int .i64 lm, .int .i64 kd, .int .i64 lg, .int .i64 lp, .int .i64 ls, wy, st] 28 #[.int .i64 0, .slice none 0 0, .slice none 0 0] 25 #[.bool false] 4
  rw [hw1]
  have m0 := blk_cell hl1 0 _ rfl
  have m1 := blk_cell hl1 1 _ rfl
  have c0 := blk_cell hb1 0 _ rfl
  have c1 := blk_cell hb1 1 _ rfl
  have c2 := blk_cell hb1 2 _ rfl
  clear hw1
  have HX1 := Lib.hid hx1
  have HB1 := Lib.hid hb1
  have HL1 := Lib.hid hl1
  have HZ1 := Lib.hid hz1
  have HT1 := Lib.hid ht1
  have H2 := Lib.hid (h2.ext hx1)
  have H3 := Lib.hid (h3.ext hx1)
  clear hx1 hb1 hz1 ht1 hl1 h2 h3
  go_wp2_with fail
  refine (snmay_any _ ⟨time, ps, gs⟩ w1 ⟨A, c, B, d, rfl, H2.out, H3.out⟩ (by have := HP.out; simp only; omega) (by have := HG.out; simp only; omega)).mono ?_
  rintro e' w2 ⟨rfl, hx2⟩
  rw [K3.out]
  have HX2 := Lib.hid hx2
  clear hx2 c0 c1 c2 m0 m1
  go_wp2_with fail
  refine (need_yes _).mono ?_
  rintro e' w' ⟨rfl, hw'⟩
  have hw2 := hw'.symm
  clear hw'
  subst hw2
  have c0 := blk_cell (HX2.out.blk HB1.out) 0 _ rfl
  have c1 := blk_cell (HX2.out.blk HB1.out) 1 _ rfl
  have c2 := blk_cell (HX2.out.blk HB1.out) 2 _ rfl
  have m1 := blk_cell (HX2.out.blk HL1.out) 1 _ rfl
  go_wp2_with fail
  refine (mhas_any _ ⟨time, ps, gs⟩ lm w2 ⟨A, c, B, d, rfl, H2.out.ext HX2.out, H3.out.ext HX2.out⟩ (by have := HP.out; simp only; omega) (by have := HG.out; simp only; omega) _ _ rfl rfl).mono ?_
  rintro e' w3 ⟨rfl, hx3⟩
  have HX3 := Lib.hid (HX2.out.trans hx3)
  clear hx3 c0 c1 c2 m1 HX2
  go_wp2_with fail
  refine region_rgx ([(4, (fun u => ∃ A c, u = .slice A ps.length c : Value → Prop), (fun u w => TrO 66 2 snPCells w3.heap.size w (u 4) ps : (Nat → GV) → World → Prop)), (7, (fun u => ∃ A c, u = .slice A gs.length c : Value → Prop), (fun u w => TrO 51 4 snGCells w3.heap.size w (u 7) gs : (Nat → GV) → World → Prop)), (13, (fun u => ∃ g, u = .pointer (some ⟨g, 0, none⟩) : Value → Prop), (fun u w => HasW 69 w3 w (u 13) [.int .i64 lt, (u 4).v, (u 7).v, .int .i64 lt, .int .i64 lm, .int .i64 kd, .int .i64 lg, .int .i64 lp, .int .i64 ls, wy, st, .int .i64 (Md.hasP ps lm 1), .int .i64 (Md.hasG gs lm)] : (Nat → GV) → World → Prop))]) (w3) (by kernel_rfl) (by kernel_rfl) ?_ ?_ ?_
  · exact List.forall_mem_cons.2 ⟨⟨⟨_, none, 0, rfl⟩, fun u v w h ht => by show (fun u w => TrO 66 2 snPCells w3.heap.size w (u 4) ps : (Nat → GV) → World → Prop) v w; dsimp only; rw [← h 4 (.inl rfl) (by kernel_rfl)]; exact ht, fun u w w2 hx ht => ht.ext hx⟩, List.forall_mem_cons.2 ⟨⟨⟨_, none, 0, rfl⟩, fun u v w h ht => by show (fun u w => TrO 51 4 snGCells w3.heap.size w (u 7) gs : (Nat → GV) → World → Prop) v w; dsimp only; rw [← h 7 (.inl rfl) (by kernel_rfl)]; exact ht, fun u w w2 hx ht => ht.ext hx⟩, List.forall_mem_cons.2 ⟨⟨⟨_, 0, rfl⟩, fun u v w h ht => by show (fun u w => HasW 69 w3 w (u 13) [.int .i64 lt, (u 4).v, (u 7).v, .int .i64 lt, .int .i64 lm, .int .i64 kd, .int .i64 lg, .int .i64 lp, .int .i64 ls, wy, st, .int .i64 (Md.hasP ps lm 1), .int .i64 (Md.hasG gs lm)] : (Nat → GV) → World → Prop) v w; dsimp only; rw [← h 13 (.inl rfl) (by kernel_rfl), ← h 4 (.inr (by kernel_rfl)) (by kernel_rfl), ← h 7 (.inr (by kernel_rfl)) (by kernel_rfl)]; exact ht, fun u w w2 hx ht => ht.ext hx⟩, List.forall_mem_nil _⟩⟩⟩
  · first | assumption | exact Ext.refl _
  refine rg_pure (v := ?_) rfl (by kernel_rfl) (by kernel_rfl) (fun w hS hN => ?_) ?_
  rotate_left 1
  · clear hN
    go_simp
    refine givesP_mk ?_
    with_reducible rfl
  refine rg_pure (v := ?_) rfl (by kernel_rfl) (by kernel_rfl) (fun w hS hN => ?_) ?_
  rotate_left 1
  · have q0 := blk_cell (hS.blk (HX3.out.blk HL1.out)) 0 _ rfl
    clear hN
    go_simp
    refine givesP_mk ?_
    with_reducible rfl
  refine rg_pure (v := ?_) rfl (by kernel_rfl) (by kernel_rfl) (fun w hS hN => ?_) ?_
  rotate_left 1
  · clear hN
    go_simp
    refine givesP_mk ?_
    with_reducible rfl
  refine rg_pure (v := ?_) rfl (by kernel_rfl) (by kernel_rfl) (fun w hS hN => ?_) ?_
  rotate_left 1
  · have q1 := blk_cell (hS.blk (HX3.out.blk HB1.out)) 1 _ rfl
    clear hN
    go_simp
    refine givesP_mk ?_
    with_reducible rfl
  refine rg_mem (fun u => ∃ A c, u = .slice A ps.length c : Value → Prop) (fun u w => TrO 66 2 snPCells w3.heap.size w (u 4) ps : (Nat → GV) → World → Prop) (fun _ => Ext) rfl rfl rfl rfl (by kernel_rfl) (by kernel_rfl) (fun w hS hN R hR => ?_) ?_
  · have HR := Lib.hid hR
    clear hR
    (try clear hN)
    go_simp
    refine givesM_call ((clonePS_any _ ps w ((H2.out.ext HX3.out).ext hS) (by have := HP.out; omega)).mono ?_)
    rintro e w' ⟨v, rfl, ho, hx⟩
    obtain ⟨A', c', rfl, _⟩ := (ho.rows snPCells_len).form
    exact ⟨_, rfl, HR.out _ _ ⟨_, _, rfl⟩ (TrO.of ho hS.size) hx⟩
  rintro u4 s4 t4 ⟨A4, c4, rfl⟩
  refine rg_pure (v := ?_) rfl (by kernel_rfl) (by kernel_rfl) (fun w hS hN => ?_) ?_
  rotate_left 1
  · clear hN
    go_simp
    refine givesP_mk ?_
    with_reducible rfl
  refine rg_pure (v := ?_) rfl (by kernel_rfl) (by kernel_rfl) (fun w hS hN => ?_) ?_
  rotate_left 1
  · have q2 := blk_cell (hS.blk (HX3.out.blk HB1.out)) 2 _ rfl
    clear hN
    go_simp
    refine givesP_mk ?_
    with_reducible rfl
  refine rg_mem (fun u => ∃ A c, u = .slice A gs.length c : Value → Prop) (fun u w => TrO 51 4 snGCells w3.heap.size w (u 7) gs : (Nat → GV) → World → Prop) (fun _ => Ext) rfl rfl rfl rfl (by kernel_rfl) (by kernel_rfl) (fun w hS hN R hR => ?_) ?_
  · have HR := Lib.hid hR
    clear hR
    (try clear hN)
    go_simp
    refine givesM_call ((cloneGS_any _ gs w ((H3.out.ext HX3.out).ext hS) (by have := HG.out; omega)).mono ?_)
    rintro e w' ⟨v, rfl, ho, hx⟩
    obtain ⟨A', c', rfl, _⟩ := (ho.rows snGCells_len).form
    exact ⟨_, rfl, HR.out _ _ ⟨_, _, rfl⟩ (TrO.of ho hS.size) hx⟩
  rintro u7 s7 t7 ⟨A7, c7, rfl⟩
  refine rg_pure (v := ?_) rfl (by kernel_rfl) (by kernel_rfl) (fun w hS hN => ?_) ?_
  rotate_left 1
  · clear hN
    go_simp
    refine givesP_mk ?_
    with_reducible rfl
  refine rg_pure (v := (.agg #[.int .i64 lt, .int .i64 lm, .int .i64 kd, .int .i64 lg, .int .i64 lp, .int .i64 ls, wy, st])) rfl (by kernel_rfl) (by kernel_rfl) (fun w hS hN => ?_) ?_
  · clear hN
    exact givesP_load 28 _ rfl _ (by go_simp) ([.int .i64 lt, .int .i64 lm, .int .i64 kd, .int .i64 lg, .int .i64 lp, .int .i64 ls, wy, st]) _ rfl _ (range_row (hS.blk (HX3.out.blk HL1.out))) Try.underlying28 rfl (by kernel_rfl)
  refine rg_pure (v := ?_) rfl (by kernel_rfl) (by kernel_rfl) (fun w hS hN => ?_) ?_
  rotate_left 1
  · clear hN
    go_simp
    refine givesP_mk ?_
    with_reducible rfl
  refine rg_pure (v := ?_) rfl (by kernel_rfl) (by kernel_rfl) (fun w hS hN => ?_) ?_
  rotate_left 1
  · clear hN
    go_simp
    refine givesP_mk ?_
    with_reducible rfl
  refine rg_pure (v := ?_) rfl (by kernel_rfl) (by kernel_rfl) (fun w hS hN => ?_) ?_
  rotate_left 1
  · clear hN
    go_simp
    refine givesP_mk ?_
    with_reducible rfl
  refine rg_mem (fun u => ∃ g, u = .pointer (some ⟨g, 0, none⟩) : Value → Prop) (fun u w => HasW 69 w3 w (u 13) [.int .i64 lt, (u 4).v, (u 7).v, .int .i64 lt, .int .i64 lm, .int .i64 kd, .int .i64 lg, .int .i64 lp, .int .i64 ls, wy, st, .int .i64 (Md.hasP ps lm 1), .int .i64 (Md.hasG gs lm)] : (Nat → GV) → World → Prop) (fun _ => Ext) rfl rfl rfl rfl (by kernel_rfl) (by kernel_rfl) (fun w hS hN R hR => ?_) ?_
  · have HR := Lib.hid hR
    clear hR
    (try clear hN)
    go_simp
    exact givesM_val (HR.out _ _ ⟨_, rfl⟩ ⟨w.heap.size, rfl, hS.size, ⟨Nat.le_refl _, by simp [lookU]⟩, blk_new w _⟩ ((Ext.refl w).alloc _))
  rintro u13 s13 t13 ⟨T, rfl⟩
  refine rg_pure (v := ?_) rfl (by kernel_rfl) (by kernel_rfl) (fun w hS hN => ?_) ?_
  rotate_left 1
  · clear hN
    go_simp
    refine givesP_mk ?_
    with_reducible rfl
  refine rg_doneA rfl (Nat.le_of_ble_eq_true (by kernel_rfl)) ?_
  intro w4 hS hT hA
  have h4 : TrO 66 2 snPCells w3.heap.size w4 ⟨.slice A4 ps.length c4, s4, t4⟩ ps := hT (4, ⟨.slice A4 ps.length c4, s4, t4⟩) (by simp)
  have h7 : TrO 51 4 snGCells w3.heap.size w4 ⟨.slice A7 gs.length c7, s7, t7⟩ gs := hT (7, ⟨.slice A7 gs.length c7, s7, t7⟩) (by simp)
  have h13 : HasW 69 w3 w4 ⟨.pointer (some ⟨T, 0, none⟩), s13, t13⟩ [.int .i64 lt, .slice A4 ps.length c4, .slice A7 gs.length c7, .int .i64 lt, .int .i64 lm, .int .i64 kd, .int .i64 lg, .int .i64 lp, .int .i64 ls, wy, st, .int .i64 (Md.hasP ps lm 1), .int .i64 (Md.hasG gs lm)] := hT (13, ⟨.pointer (some ⟨T, 0, none⟩), s13, t13⟩) (by simp)
  have a4_7 : t4 ≤ s7 ∨ t7 ≤ s4 := hA (4, ⟨.slice A4 ps.length c4, s4, t4⟩) (by simp) (7, ⟨.slice A7 gs.length c7, s7, t7⟩) (by simp) (by simp)
  have a4_13 : t4 ≤ s13 ∨ t13 ≤ s4 := hA (4, ⟨.slice A4 ps.length c4, s4, t4⟩) (by simp) (13, ⟨.pointer (some ⟨T, 0, none⟩), s13, t13⟩) (by simp) (by simp)
  have a7_13 : t7 ≤ s13 ∨ t13 ≤ s7 := hA (7, ⟨.slice A7 gs.length c7, s7, t7⟩) (by simp) (13, ⟨.pointer (some ⟨T, 0, none⟩), s13, t13⟩) (by simp) (by simp)
  have HTR : Hid (Tr w3 w4 T ⟨lt, ps, gs⟩ ⟨lt, lm, kd, lg, lp, ls⟩ wy st (Md.hasP ps lm 1) (Md.hasG gs lm) A4 c4 A7 c7) := Lib.hid (by
    obtain ⟨g, e, k1, k2, k3⟩ := h13
    simp only [Value.pointer.injEq, Option.some.injEq, Addr.mk.injEq, and_true] at e
    subst e
    dsimp only at k2
    refine ⟨k3, h4.1, h7.1, fun b hb => ?_, fun b hb => ?_, fun a b ha hb => ?_, k1, hS⟩
    · have := h4.2 b.block (by rw [hb]; rfl)
      dsimp only at this
      omega
    · have := h7.2 b.block (by rw [hb]; rfl)
      dsimp only at this
      omega
    · have h := h4.2 a.block (by rw [ha]; rfl)
      have := h7.2 b.block (by rw [hb]; rfl)
      dsimp only at this h
      omega)
  clear hS hT hA h4 h7 h13 a4_7 a4_13 a7_13
  go_simp
  go_wp2_with fail
  refine (mapply_any w3 w4 T ⟨lt, ps, gs⟩ ⟨lt, lm, kd, lg, lp, ls⟩ wy st A4 c4 A7 c7 HTR.out HRI.out ⟨HP.out, HG.out⟩ HSQ.out).mono ?_
  rintro e' w5 (⟨y, hy, rfl, A5, c5, D5, d5, hT5⟩ | ⟨ho, rfl, hx5⟩)
  rotate_left 1
  · have HX5 := Lib.hid (HX3.out.trans hx5)
    have HN : Hid (Md.app ⟨time, ps, gs⟩ ⟨lt, lm, kd, lg, lp, ls⟩ = none) := Lib.hid (by
      unfold Md.app
      rw [if_neg (by
        rintro ⟨_, _, _, k4, _⟩
        rw [Md.ask_timed lt time, if_pos k4] at ho
        cases ho)])
    clear hx5 ho
    go_wp2
    rw [HN.out]
    exact app_no rfl (by simp) (by simp) (HX1.out.trans HX5.out) (HX5.out.blk HZ1.out) (HX5.out.blk HT1.out) (by omega) (by omega) (by omega)
  obtain ⟨HASK, HY⟩ : Hid (Md.ask ⟨time, ps, gs⟩ ⟨lt, lm, kd, lg, lp, ls⟩ = true) ∧ Hid (({ Md.thn ⟨time, ps, gs⟩ ⟨lt, lm, kd, lg, lp, ls⟩ with time := lt } : Sn) = y) := by
    by_cases k : Md.ask ⟨time, ps, gs⟩ ⟨lt, lm, kd, lg, lp, ls⟩ = true
    · rw [Md.ask_timed lt time, if_pos k] at hy
      have := Option.some.inj hy
      exact ⟨Lib.hid k, Lib.hid ((Md.thn_timed lt time ps gs _).symm.trans this)⟩
    · rw [Md.ask_timed lt time, if_neg k] at hy
      cases hy
  have HYL : Hid (y.ps.length ≤ 1001 ∧ y.gs.length ≤ 1001) := Lib.hid (by
    have h := Md.thn_len ⟨time, ps, gs⟩ ⟨lt, lm, kd, lg, lp, ls⟩
    have h1 := HP.out
    have h2 := HG.out
    rw [← HY.out]
    simp only at h ⊢
    omega)
  have HX5 := Lib.hid (HX3.out.trans hT5.ext)
  have HR5 := Lib.hid (range_pre (cs := [.int .i64 y.time, .slice A5 y.ps.length c5, .slice D5 y.gs.length d5]) (ds := [.int .i64 lt, .int .i64 lm, .int .i64 kd, .int .i64 lg, .int .i64 lp, .int .i64 ls, wy, st, .int .i64 (Md.hasP ps lm 1), .int .i64 (Md.hasG gs lm)]) hT5.box)
  have HSN : Hid (SnAt w5 (.agg #[.int .i64 y.time, .slice A5 y.ps.length c5, .slice D5 y.gs.length d5]) y) := Lib.hid ⟨A5, c5, D5, d5, rfl, hT5.ps.rows snPCells_len, hT5.gs.rows snGCells_len⟩
  have HBX := Lib.hid hT5.box
  clear hy hT5 HTR
  go_wp2_with (refine wpList_load_rowW rfl 25 _ rfl T rfl [.int .i64 y.time, .slice A5 y.ps.length c5, .slice D5 y.gs.length d5] (.agg #[.int .i64 y.time, .slice A5 y.ps.length c5, .slice D5 y.gs.length d5]) rfl _ HR5.out Try.underlying25 rfl (by kernel_rfl) ?_)
  refine (snmay_any _ y w5 HSN.out (by have := HYL.out; omega) (by have := HYL.out; omega)).mono ?_
  rintro e' w6 ⟨rfl, hx6⟩
  have HX6 := Lib.hid (HX5.out.trans hx6)
  have HS6 := Lib.hid (HSN.out.ext hx6)
  have HB6 := Lib.hid (hx6.blk HBX.out)
  clear hx6 HR5 HSN HBX HX5
  obtain ⟨my, hmy⟩ : ∃ my, y.may = my := ⟨_, rfl⟩
  have HMY := Lib.hid hmy
  rw [hmy]
  clear hmy
  cases my with
  | false =>
    have HN : Hid (Md.app ⟨time, ps, gs⟩ ⟨lt, lm, kd, lg, lp, ls⟩ = none) := Lib.hid (by
      unfold Md.app
      rw [HY.out, if_neg (by
        rintro ⟨_, _, _, _, k5⟩
        rw [HMY.out] at k5
        cases k5)])
    go_wp2_with fail
    refine (need_no _).mono ?_
    rintro e' w' ⟨rfl, rfl⟩
    go_wp2
    rw [HN.out]
    exact app_no rfl (by simp) (by simp) (HX1.out.trans HX6.out) (HX6.out.blk HZ1.out) (HX6.out.blk HT1.out) (by omega) (by omega) (by omega)
  | true =>
    have HN : Hid (Md.app ⟨time, ps, gs⟩ ⟨lt, lm, kd, lg, lp, ls⟩ = some y) := Lib.hid (by
      unfold Md.app
      have k1 := K1.out
      rw [HY.out, if_pos ⟨by simp only; omega, K2.out, K3.out, HASK.out, HMY.out⟩])
    go_wp2_with fail
    refine (need_yes _).mono ?_
    rintro e' w' ⟨rfl, hw'⟩
    have hw2 := hw'.symm
    clear hw'
    subst hw2
    have HR6 := Lib.hid (range_pre (cs := [.int .i64 y.time, .slice A5 y.ps.length c5, .slice D5 y.gs.length d5]) (ds := [.int .i64 lt, .int .i64 lm, .int .i64 kd, .int .i64 lg, .int .i64 lp, .int .i64 ls, wy, st, .int .i64 (Md.hasP ps lm 1), .int .i64 (Md.hasG gs lm)]) HB6.out)
    obtain ⟨hth, wa, hwa, qa, fa, wb, hwb, hxb, hsb, hrb, hnb⟩ := app_store (HX1.out.trans HX6.out) (HX6.out.blk HZ1.out) (HX6.out.blk HT1.out) (by omega) (by omega) (by omega) HS6.out
    have HTH := Lib.hid hth
    have HWA := Lib.hid hwa
    have HWB := Lib.hid hwb
    have HXB := Lib.hid hxb
    have HSB := Lib.hid hsb
    have HRB := Lib.hid hrb
    have HNB := Lib.hid hnb
    clear hth hwa hwb hxb hsb hrb hnb
    go_wp2_with (first | (refine wpList_load_rowW rfl 25 _ rfl T rfl [.int .i64 y.time, .slice A5 y.ps.length c5, .slice D5 y.gs.length d5] (.agg #[.int .i64 y.time, .slice A5 y.ps.length c5, .slice D5 y.gs.length d5]) rfl _ HR6.out Try.underlying25 rfl (by kernel_rfl) ?_) | (refine wpList_store_rowN rfl 25 _ _ rfl _ 0 [.int .i64 y.time, .slice A5 y.ps.length c5, .slice D5 y.gs.length d5] (.agg ([.int .i64 y.time, .slice A5 y.ps.length c5, .slice D5 y.gs.length d5]).toArray) (by go_simp) (by go_simp) rfl HTH.out (by kernel_rfl) (sn3_one _ _ _ rfl rfl) HWA.out ?_))
    rw [HWB.out, HN.out]
    exact app_yes rfl (by simp) (by simp) HXB.out HSB.out HRB.out HNB.out
theorem mApply_any (v : Value) (x : Sn) (l : Lg) (wy st : Value) (w : World) (hs : SnAt w v x) (hp : x.ps.length ≤ 1000) (hg : x.gs.length ≤ 1000) (o : Option Sn) (hr : Md.app x l = o) :
    Calls Try.prog 10 #[v, lgV l wy st] w (SnApp w o) := by
  subst hr
  by_cases h : 0 < l.m ∧ x.time ≤ l.time ∧ x.may = true
  · exact mApply_yes v x l wy st w hs hp hg h
  · have : Md.app x l = none := by
      unfold Md.app
      rw [if_neg (fun k => h ⟨by have := k.1; omega, k.2.1, k.2.2.1⟩)]
    rw [this]
    exact mApply_no v x l wy st w hs hp hg h
theorem sn_big {time : Int} {ps : List (Int × Int)} {gs : List Gs4} (h : 64 < ps.length ∨ 1000 < gs.length) : Sn.may ⟨time, ps, gs⟩ = false := by
  cases hm : Sn.may ⟨time, ps, gs⟩ with
  | false => rfl
  | true =>
    obtain ⟨_, h1, h2, _⟩ := (Sn.may_iff _).1 hm
    simp only at h1 h2
    omega
set_option maxRecDepth 100000 in
set_option maxHeartbeats 1000000 in
theorem snmay_big (v : Value) (s : Sn) (w : World) (hs : SnAt w v s) (hbig : 64 < s.ps.length ∨ 1000 < s.gs.length) :
    Calls Try.prog 24 #[v] w fun e w' => e = .returned (.bool false) ∧ Ext w w' := by
  obtain ⟨A, c, B, d, rfl, h2, h3⟩ := hs
  obtain ⟨time, ps, gs⟩ := s
  simp only at h2 h3 hbig ⊢
  have HI : Hid (IntsAt ((w.alloc (.cells #[.int .i64 time, .slice A ps.length c, .slice B gs.length d] 25)).alloc (.cells #[.int .i64 time] 3)) (.slice (some ⟨w.heap.size + 1, 0, none⟩) 1 1) [time]) := Lib.hid (by have := ints_arr (w.alloc (.cells #[.int .i64 time, .slice A ps.length c, .slice B gs.length d] 25)) [time]; rw [World.size_alloc] at this; exact this)
  have HX2 : Hid (Ext w ((w.alloc (.cells #[.int .i64 time, .slice A ps.length c, .slice B gs.length d] 25)).alloc (.cells #[.int .i64 time] 3))) := Lib.hid (((Ext.refl w).alloc _).alloc _)
  have HBX : Hid (((w.alloc (.cells #[.int .i64 time, .slice A ps.length c, .slice B gs.length d] 25)).alloc (.cells #[.int .i64 time] 3)).heap[w.heap.size]? = some (.cells #[.int .i64 time, .slice A ps.length c, .slice B gs.length d] 25 (0, 0))) := Lib.hid (blk_alloc (blk_new w (.cells #[.int .i64 time, .slice A ps.length c, .slice B gs.length d] 25)) (.cells #[.int .i64 time] 3))
  clear h2 h3
  obtain ⟨r, hr⟩ : ∃ r, [time].all snNum = r := ⟨_, rfl⟩
  have HR := Lib.hid hr
  clear hr
  cases r with
  | false =>
    clear hbig
    go_enter Try.func24, Try.ntmps24
    go_wp2_with fail
    refine (snnum_any _ [time] false HR.out _ HI.out (by simp)).mono ?_
    rintro e w2 ⟨rfl, rfl⟩
    go_wp2
    go_ret
    exact ⟨rfl, HX2.out⟩
  | true =>
    by_cases h64 : ps.length ≤ 64
    · have i64 : (ps.length : Int) ≤ 64 := by omega
      have i1000 : 1000 < (gs.length : Int) := by omega
      clear hbig
      go_enter Try.func24, Try.ntmps24
      go_wp2_with fail
      refine (snnum_any _ [time] true HR.out _ HI.out (by simp)).mono ?_
      rintro e w2 ⟨rfl, rfl⟩
      go_wp2
      go_ret
      exact ⟨rfl, HX2.out⟩
    · have i64 : 64 < (ps.length : Int) := by omega
      clear hbig
      go_enter Try.func24, Try.ntmps24
      go_wp2_with fail
      refine (snnum_any _ [time] true HR.out _ HI.out (by simp)).mono ?_
      rintro e w2 ⟨rfl, rfl⟩
      go_wp2
      go_ret
      exact ⟨rfl, HX2.out⟩
set_option maxRecDepth 100000 in
set_option maxHeartbeats 8000000 in
theorem mApply_big (v : Value) (x : Sn) (l : Lg) (wy st : Value) (w : World) (hs : SnAt w v x) (hbig : 64 < x.ps.length ∨ 1000 < x.gs.length) :
    Calls Try.prog 10 #[v, lgV l wy st] w fun e w' => SnApp w none e w' := by
  obtain ⟨A, c, B, d, rfl, h2, h3⟩ := hs
  obtain ⟨time, ps, gs⟩ := x
  obtain ⟨lt, lm, kd, lg, lp, ls⟩ := l
  simp only at h2 h3 hbig ⊢
  have hmf : ∀ (fn : Fn) (first cap : Array Value) (w : World), (Instr.makeFunc fn first cap).run Try.prog w = .ok (.func fn first cap) w := fun _ _ _ _ => rfl
  have HBIG := Lib.hid hbig
  clear hbig
  unfold lgV
  go_enter_defers Try.func10, Try.ntmps10
  go_upto_region 2 with fail
  obtain ⟨w1, hw1, hx1, hb1, hl1, hz1, ht1⟩ := app_four w #[.int .i64 time, .slice A ps.length c, .slice B gs.length d] 25 #[.int .i64 lt, .int .i64 lm, .int .i64 kd, .int .i64 lg, .int .i64 lp, .int .i64 ls, wy, st] 28 #[.int .i64 0, .slice none 0 0, .slice none 0 0] 25 #[.bool false] 4
  rw [hw1]
  have m0 := blk_cell hl1 0 _ rfl
  have m1 := blk_cell hl1 1 _ rfl
  have c0 := blk_cell hb1 0 _ rfl
  have c1 := blk_cell hb1 1 _ rfl
  have c2 := blk_cell hb1 2 _ rfl
  clear hw1
  have HX1 := Lib.hid hx1
  have HB1 := Lib.hid hb1
  have HZ1 := Lib.hid hz1
  have HT1 := Lib.hid ht1
  have H2 := Lib.hid (h2.ext hx1)
  have H3 := Lib.hid (h3.ext hx1)
  clear hx1 hb1 hz1 ht1 hl1 h2 h3
  by_cases k1 : 0 < lm
  rotate_left 1
  · skip
    have e1 : decide (0 < lm) = false := decide_eq_false k1
    clear k1
    go_wp2_with fail
    refine (need_no _).mono ?_
    rintro e' w' ⟨rfl, rfl⟩
    go_wp2
    exact app_no rfl (by simp) (by simp) HX1.out HZ1.out HT1.out (by omega) (by omega) (by omega)
  have e1 : decide (0 < lm) = true := decide_eq_true k1
  have K1 := Lib.hid k1
  clear k1
  by_cases k2 : time ≤ lt
  rotate_left 1
  · skip
    have e2 : decide (time ≤ lt) = false := decide_eq_false k2
    clear k2
    go_wp2_with fail
    refine (need_no _).mono ?_
    rintro e' w' ⟨rfl, rfl⟩
    go_wp2
    exact app_no rfl (by simp) (by simp) HX1.out HZ1.out HT1.out (by omega) (by omega) (by omega)
  have e2 : decide (time ≤ lt) = true := decide_eq_true k2
  have K2 := Lib.hid k2
  clear k2
  go_wp2_with fail
  refine (snmay_big _ ⟨time, ps, gs⟩ w1 ⟨A, c, B, d, rfl, H2.out, H3.out⟩ HBIG.out).mono ?_
  rintro e' w2 ⟨rfl, hx2⟩
  have HX2 := Lib.hid hx2
  clear hx2 c0 c1 c2 m0 m1
  go_wp2_with fail
  refine (need_no _).mono ?_
  rintro e' w' ⟨rfl, rfl⟩
  go_wp2
  exact app_no rfl (by simp) (by simp) (HX1.out.trans HX2.out) (HX2.out.blk HZ1.out) (HX2.out.blk HT1.out) (by omega) (by omega) (by omega)
theorem mApply_all (v : Value) (x : Sn) (l : Lg) (wy st : Value) (w : World) (hs : SnAt w v x) (o : Option Sn) (hr : Md.app x l = o) :
    Calls Try.prog 10 #[v, lgV l wy st] w (SnApp w o) := by
  by_cases h : 64 < x.ps.length ∨ 1000 < x.gs.length
  · obtain rfl : none = o := by
      rw [← hr]
      obtain ⟨time, ps, gs⟩ := x
      have hm := sn_big (time := time) h
      unfold Md.app
      rw [if_neg (by rintro ⟨_, _, h3, _⟩; rw [hm] at h3; cases h3)]
    exact mApply_big v x l wy st w hs h
  · exact mApply_any v x l wy st w hs (by omega) (by omega) o hr
namespace Md
def psOf (l : List Pr) : List (Int × Int) := l.map fun p => (p.m, p.seq)
def gsOf : List Gr → Int → List Gs4
  | [], _ => []
  | g :: l, i => if g.st = 5 then gsOf l (i + 1) else (i, g.st, g.m, g.seq) :: gsOf l (i + 1)
def of (s : St) : Sn := if s.may = true then ⟨s.clock, psOf s.ps, gsOf s.gs 1⟩ else zero
theorem gsOf_snoc (y : Gr) : ∀ (l : List Gr) (i : Int), gsOf (l ++ [y]) i = gsOf l i ++ (if y.st = 5 then [] else [(i + l.length, y.st, y.m, y.seq)])
  | [], i => by
    simp only [List.nil_append, gsOf, List.length_nil]
    by_cases h : y.st = 5
    · rw [if_pos h, if_pos h]
    · rw [if_neg h, if_neg h]; simp
  | g :: l, i => by
    simp only [List.cons_append, gsOf, List.length_cons]
    rw [gsOf_snoc y l (i + 1)]
    have e : i + 1 + (l.length : Int) = i + ((l.length + 1 : Nat) : Int) := by omega
    rw [e]
    by_cases h : g.st = 5
    · rw [if_pos h, if_pos h]
    · rw [if_neg h, if_neg h]; rfl
theorem gsOf_len : ∀ (l : List Gr) (i : Int), (gsOf l i).length ≤ l.length
  | [], _ => by simp [gsOf]
  | g :: l, i => by
    unfold gsOf
    have := gsOf_len l (i + 1)
    split <;> simp only [List.length_cons] <;> omega
theorem gsOf_take {l : List Gr} {k : Nat} {y : Gr} (h : l[k]? = some y) : gsOf (l.take (k + 1)) 1 = gsOf (l.take k) 1 ++ (if y.st = 5 then [] else [((k : Int) + 1, y.st, y.m, y.seq)]) := by
  have hk : k < l.length := (List.getElem?_eq_some_iff.1 h).1
  rw [List.take_add_one, h, Option.toList_some, gsOf_snoc, List.length_take, Nat.min_eq_left (Nat.le_of_lt hk), Int.add_comm]
theorem psOf_take {l : List Pr} {k : Nat} {y : Pr} (h : l[k]? = some y) : psOf (l.take (k + 1)) = psOf (l.take k) ++ [(y.m, y.seq)] := by
  rw [List.take_add_one, h, Option.toList_some]
  unfold psOf
  rw [List.map_append]
  rfl
end Md
structure OfBox (w0 w : World) (X : Nat) (t : Int) (u1 u2 : Value) (ps : List (Int × Int)) (gs : List Gs4) : Prop where
  box : w.heap[X]? = some (.cells #[.int .i64 t, u1, u2] 25 (0, 0))
  ps : OwnRows 66 2 snPCells w (X + 1) u1 ps
  gs : OwnRows 51 4 snGCells w (X + 1) u2 gs
  nn : ∀ k, u1.ownBlock = some k → u2.ownBlock ≠ some k
  ext : Ext w0 w
  lo : w0.heap.size ≤ X
namespace OfBox
variable {w0 w w' : World} {X : Nat} {t : Int} {u1 u2 : Value} {ps : List (Int × Int)} {gs : List Gs4}
theorem more (h : OfBox w0 w X t u1 u2 ps gs) (hx : Ext w w') : OfBox w0 w' X t u1 u2 ps gs :=
  ⟨hx.blk h.box, h.ps.ext hx, h.gs.ext hx, h.nn, h.ext.trans hx, h.lo⟩
theorem pushP (h : OfBox w0 w X t u1 u2 ps gs) (y : Int × Int) (hl : ps.length ≤ 1000000) :
    ∃ u' w', (Builtin.append_ #[22, 22] 22 #[u1, .slice (some ⟨w.heap.size, 0, none⟩) 1 1]).run Try.prog (w.alloc (.cells (snPCells y).toArray 66)) = .ok u' w' ∧ w'.cell? ⟨X, 1, none⟩ = some u1 ∧ w'.frozen? ⟨X, 1, none⟩ = false ∧ OfBox w0 (w'.setCell ⟨X, 1, none⟩ u') X t u' u2 (ps ++ [y]) gs := by
  obtain ⟨i0, I0, I1, I2, I3⟩ := info_parts Try.infoPS
  have hX := blk_lt h.box
  obtain ⟨u', w', hr, ho, hg, hb⟩ := OwnRows.append2 (P := Try.prog) (e := 66) (m := 2) (f := snPCells) (xs := ps) (ys := [y]) 22 Try.underlying22 I0 I1 I2 I3 rfl (by decide) snPCells_len snPCells_one (h.ps.alloc (.cells (snPCells y).toArray 66)) (rows_one w 66 y) (by simp [maxLen]; omega) (by simp; omega) (by simp; omega)
  have hbx : w'.heap[X]? = some (.cells #[.int .i64 t, u1, u2] 25 (0, 0)) := by
    rw [hg.block X (by simp; omega) (fun e => by have := (h.ps.lt X e.symm).1; omega)]
    exact blk_alloc h.box _
  have hu : Upd X w' (w'.setCell ⟨X, 1, none⟩ u') := (Upd.refl _ _).set 1 _
  refine ⟨u', w', hr, blk_cell hbx 1 _ rfl, frozen_of_row _ _ 1 _ _ hbx, ?_, ho.upd hu (by omega), ?_, ?_, ?_, h.lo⟩
  · have := blk_set hbx 1 u'
    simpa using this
  · refine OwnRows.upd ?_ hu (by omega)
    refine (h.gs.alloc _).kept hg ?_
    cases e : u2.ownBlock with
    | none => exact .inl rfl
    | some k =>
      right
      intro e2
      exact h.nn k e2.symm e
  · intro k hk e
    rcases hb with hb | hb
    · exact h.nn k (hb ▸ hk) e
    · rw [hb] at hk
      injection hk with hk
      have := (h.gs.lt k e).2
      simp at hk
      omega
  · exact Ext.upd (Below.grown (h.ext.alloc _) hg (by have := h.ext.size; simp; omega) fun k hk => by have := (h.ps.lt k hk).1; have := h.lo; omega) hu h.lo
theorem pushG (h : OfBox w0 w X t u1 u2 ps gs) (y : Gs4) (hl : gs.length ≤ 1000000) :
    ∃ u' w', (Builtin.append_ #[23, 23] 23 #[u2, .slice (some ⟨w.heap.size, 0, none⟩) 1 1]).run Try.prog (w.alloc (.cells (snGCells y).toArray 51)) = .ok u' w' ∧ w'.cell? ⟨X, 2, none⟩ = some u2 ∧ w'.frozen? ⟨X, 2, none⟩ = false ∧ OfBox w0 (w'.setCell ⟨X, 2, none⟩ u') X t u1 u' ps (gs ++ [y]) := by
  obtain ⟨i0, I0, I1, I2, I3⟩ := info_parts Try.infoGS
  have hX := blk_lt h.box
  obtain ⟨u', w', hr, ho, hg, hb⟩ := OwnRows.append2 (P := Try.prog) (e := 51) (m := 4) (f := snGCells) (xs := gs) (ys := [y]) 23 Try.underlying23 I0 I1 I2 I3 rfl (by decide) snGCells_len snGCells_one (h.gs.alloc (.cells (snGCells y).toArray 51)) (rows_one w 51 y) (by simp [maxLen]; omega) (by simp; omega) (by simp; omega)
  have hbx : w'.heap[X]? = some (.cells #[.int .i64 t, u1, u2] 25 (0, 0)) := by
    rw [hg.block X (by simp; omega) (fun e => by have := (h.gs.lt X e.symm).1; omega)]
    exact blk_alloc h.box _
  have hu : Upd X w' (w'.setCell ⟨X, 2, none⟩ u') := (Upd.refl _ _).set 2 _
  refine ⟨u', w', hr, blk_cell hbx 2 _ rfl, frozen_of_row _ _ 2 _ _ hbx, ?_, ?_, ho.upd hu (by omega), ?_, ?_, h.lo⟩
  · have := blk_set hbx 2 u'
    simpa using this
  · refine OwnRows.upd ?_ hu (by omega)
    refine (h.ps.alloc _).kept hg ?_
    cases e : u1.ownBlock with
    | none => exact .inl rfl
    | some k =>
      right
      intro e2
      exact h.nn k e e2.symm
  · intro k hk e
    rcases hb with hb | hb
    · exact h.nn k hk (hb ▸ e)
    · rw [hb] at e
      injection e with e
      have := (h.ps.lt k hk).2
      simp at e
      omega
  · exact Ext.upd (Below.grown (h.ext.alloc _) hg (by have := h.ext.size; simp; omega) fun k hk => by have := (h.gs.lt k hk).1; have := h.lo; omega) hu h.lo
theorem snap (h : OfBox w0 w X t u1 u2 ps gs) : SnAt w (.agg #[.int .i64 t, u1, u2]) ⟨t, ps, gs⟩ := by
  obtain ⟨A, c, rfl, _⟩ := (h.ps.rows snPCells_len).form
  obtain ⟨B, d, rfl, _⟩ := (h.gs.rows snGCells_len).form
  exact ⟨A, c, B, d, rfl, h.ps.rows snPCells_len, h.gs.rows snGCells_len⟩
end OfBox
theorem NestAt.get {α : Type} {m : Nat} {f : α → List Value} {w : World} {A : Option Addr} {n c : Nat} {xss : List (List α)} (h : NestAt m f w (.slice A n c) xss) {k : Nat} {xs : List α} (hk : xss[k]? = some xs) :
    ∃ b o B d, A = some ⟨b, o, none⟩ ∧ b < w.heap.size ∧ w.cell? ⟨b, o + k, none⟩ = some (.slice B xs.length d) ∧ RowsAt m f w (.slice B xs.length d) xs := by
  obtain ⟨b, o, u, hA, hb, hc, hr⟩ := h.one hk
  obtain ⟨B, d, rfl, _⟩ := hr.form
  exact ⟨b, o, B, d, hA, hb, hc, hr⟩
theorem NestAt.form2 {α : Type} {m : Nat} {f : α → List Value} {w : World} {v : Value} {xss : List (List α)} (h : NestAt m f w v xss) : ∃ A c, v = .slice A xss.length c := by
  obtain ⟨vs, hl, hr, _⟩ := h
  obtain ⟨A, c, rfl, _⟩ := hr.form
  exact ⟨A, c, by rw [hl]⟩
set_option maxHeartbeats 1000000 in
theorem rmost_any (A : Option Addr) (n c : Nat) (d : Int) (hn : n ≤ 100000) (w : World) : Calls Try.prog 77 #[.slice A n c, .int .i64 d] w fun e w' => e = .returned (.int .i64 (Pg.most n d)) ∧ w' = w := by
  unfold Pg.most
  have hn' : (n : Int) ≤ 100000 := by omega
  by_cases h1 : d = 1
  · subst h1
    rw [if_pos rfl]
    go_enter Try.func77, Try.ntmps77
    go_wp2
    go_ret
    exact ⟨rfl, rfl⟩
  · rw [if_neg h1]
    have e1 : (d == 1) = false := by simpa using h1
    by_cases h3 : d = 3
    · subst h3
      rw [if_pos (.inl rfl)]
      clear h1 e1
      go_enter Try.func77, Try.ntmps77
      go_wp2
      go_ret
      exact ⟨rfl, rfl⟩
    · have e3 : (d == 3) = false := by simpa using h3
      by_cases h4 : d = 4
      · subst h4
        rw [if_pos (.inr rfl)]
        clear h1 e1 h3 e3
        go_enter Try.func77, Try.ntmps77
        go_wp2
        go_ret
        exact ⟨rfl, rfl⟩
      · have e4 : (d == 4) = false := by simpa using h4
        rw [if_neg (by omega)]
        by_cases h6 : d = 6
        · subst h6
          rw [if_pos rfl]
          clear h1 e1 h3 e3 h4 e4
          go_enter Try.func77, Try.ntmps77
          go_wp2
          go_ret
          exact ⟨rfl, rfl⟩
        · have e6 : (d == 6) = false := by simpa using h6
          rw [if_neg h6]
          clear h1 h3 h4 h6
          go_enter Try.func77, Try.ntmps77
          go_wp2
          go_ret
          exact ⟨rfl, rfl⟩
set_option maxRecDepth 100000 in
set_option maxHeartbeats 2000000 in
theorem rpmay_any (v : Value) (p : List (List (Int × Int))) (r : Bool) (hr : Pg.may p = r) (w : World) (h : NestAt 2 pairL w v p) (h1 : p.length ≤ 100000) (h2 : ∀ l ∈ p, l.length ≤ 100000) :
    Calls Try.prog 38 #[v] w fun e w' => e = .returned (.bool r) ∧ Ext w w' := by
  subst hr
  have H := Lib.hid h
  have H2 := Lib.hid h2
  obtain ⟨A, c, rfl⟩ := h.form2
  clear h h2
  by_cases a1 : p.length < 1
  · have HT : Hid (Pg.may p = false) := Lib.hid (by unfold Pg.may; rw [decide_eq_false (by omega)]; rfl)
    have a1' : (p.length : Int) < 1 := by omega
    go_enter Try.func38, Try.ntmps38
    go_wp2
    go_ret
    rw [HT.out]
    exact ⟨rfl, Ext.refl _⟩
  by_cases a2 : 8 < p.length
  · have HT : Hid (Pg.may p = false) := Lib.hid (by unfold Pg.may; rw [decide_eq_false (by omega)]; rfl)
    have a1' : (1 : Int) ≤ (p.length : Int) := by omega
    have a2' : (8 : Int) < (p.length : Int) := by omega
    go_enter Try.func38, Try.ntmps38
    go_wp2
    go_ret
    rw [HT.out]
    exact ⟨rfl, Ext.refl _⟩
  have a1' : (1 : Int) ≤ (p.length : Int) := by omega
  have a2' : (p.length : Int) ≤ 8 := by omega
  have HST : Hid (∀ (j : Nat) l, p[j]? = some l → Pg.okC p.length l = false → Pg.may p = false) := Lib.hid fun j l hj hl => by
    unfold Pg.may; rw [all_no hj hl, Bool.and_false]
  have HOK : Hid ((∀ (j : Nat) l, p[j]? = some l → Pg.okC p.length l = true) → Pg.may p = true) := Lib.hid fun h => by
    unfold Pg.may; rw [all_yes h, decide_eq_true (by omega)]; rfl
  have HMO : Hid (∀ (d : Int) (w : World), Calls Try.prog 77 #[.slice A p.length c, .int .i64 d] w fun e w' => e = .returned (.int .i64 (Pg.most p.length d)) ∧ w' = w) := Lib.hid fun d w => rmost_any A p.length c d h1 w
  clear a1 a2
  go_enter Try.func38, Try.ntmps38
  go_wp2
  go_loopw [3] (fun iv wr => ∃ k : Nat, k ≤ p.length ∧ iv = .int .i64 k ∧ (∀ (j : Nat) l, p[j]? = some l → j < k → Pg.okC p.length l = true) ∧ Ext w wr) (fun iv _ => p.length - (intOf iv).toNat)
  case atStart => exact ⟨0, by omega, rfl, fun j l _ h => by omega, Ext.refl _⟩
  case round =>
    obtain ⟨k, hk, rfl, hall, hx⟩ := hrel
    have HALL := Lib.hid hall
    have HX := Lib.hid hx
    clear hall hx
    by_cases hlt : k < p.length
    · obtain ⟨l, hl⟩ : ∃ l, p[k]? = some l := ⟨_, List.getElem?_eq_getElem hlt⟩
      have hl2 := H2.out l (List.mem_of_getElem? hl)
      obtain ⟨b, o, B, d, rfl, hb, hcu, hrow⟩ := H.out.get hl
      have HCU := Lib.hid hcu
      have HB := Lib.hid hb
      have HR := Lib.hid hrow
      have HL := Lib.hid hl
      clear hl hb hcu hrow
      have c0 : wr.cell? ⟨b, o + k, none⟩ = some (.slice B l.length d) := (Below.cell HX.out HB.out).trans HCU.out
      by_cases b1 : 20 < l.length
      · have HT : Hid (Pg.may p = false) := Lib.hid (HST.out k l HL.out (by unfold Pg.okC; rw [decide_eq_false (by omega)]; rfl))
        have b1' : (20 : Int) < (l.length : Int) := by omega
        go_wp2
        go_ret
        rw [HT.out]
        exact ⟨rfl, HX.out⟩
      have b1' : (l.length : Int) ≤ 20 := by omega
      have HNI : Hid (∀ (j : Nat) x, l[j]? = some x → Pg.okI p.length x = false → Pg.may p = false) := Lib.hid fun j x hj hx => HST.out k l HL.out (by unfold Pg.okC; rw [all_no hj hx, Bool.and_false])
      have HYI : Hid ((∀ (j : Nat) x, l[j]? = some x → Pg.okI p.length x = true) → Pg.okC p.length l = true) := Lib.hid fun h => by unfold Pg.okC; rw [all_yes h, decide_eq_true (by omega)]; rfl
      obtain ⟨wo, rfl⟩ : ∃ wo, wo = wr := ⟨_, rfl⟩
      go_wp2_with fail
      clear c0
      go_loopw [4] (fun iv wr => ∃ j : Nat, j ≤ l.length ∧ iv = .int .i64 j ∧ (∀ (i : Nat) x, l[i]? = some x → i < j → Pg.okI p.length x = true) ∧ Ext w wr) (fun iv _ => l.length - (intOf iv).toNat)
      case atStart => exact ⟨0, by omega, rfl, fun j l _ h => by omega, HX.out⟩
      case round =>
        clear HX
        obtain ⟨j, hj, rfl, hin, hx⟩ := hrel
        have HIN := Lib.hid hin
        have HX := Lib.hid hx
        clear hin hx
        have c0 : wr.cell? ⟨b, o + k, none⟩ = some (.slice B l.length d) := (Below.cell HX.out HB.out).trans HCU.out
        by_cases hlt2 : j < l.length
        · obtain ⟨x, hx⟩ : ∃ x, l[j]? = some x := ⟨_, List.getElem?_eq_getElem hlt2⟩
          obtain ⟨b3, o3, rfl, hb3, e0, e1⟩ := frs2_get (HR.out.ext HX.out) hx
          have HXX := Lib.hid hx
          obtain ⟨d, a⟩ := x
          simp only at e0 e1
          obtain ⟨w3, hw3⟩ : ∃ w3, wr.alloc (.cells #[.int .i64 d, .int .i64 a] 106) = w3 := ⟨_, rfl⟩
          have HW3 := Lib.hid hw3
          have HX3 : Hid (Ext w w3) := Lib.hid (by rw [← hw3]; exact HX.out.alloc _)
          have hq : w3.heap[wr.heap.size]? = some (.cells #[.int .i64 d, .int .i64 a] 106 (0, 0)) := by rw [← hw3]; exact blk_new wr _
          have q0 := blk_cell hq 0 _ rfl
          have q1 := blk_cell hq 1 _ rfl
          clear hx hb3 hq hw3
          by_cases t1 : d < 0
          · have HNO : Hid (Pg.may p = false) := Lib.hid (HNI.out j _ HXX.out (by unfold Pg.okI; rw [decide_eq_false (by simp only; omega)]))
            (go_upto_region 12 with fail; rw [HW3.out]; go_quiet ((go_at_call 77; exact Calls.quiet_of_same (HMO.out _))); go_wp2; go_ret; exact ⟨by rw [HNO.out] <;> rfl, HX3.out.drewN _⟩)
          by_cases t2 : 6 < d
          · have HNO : Hid (Pg.may p = false) := Lib.hid (HNI.out j _ HXX.out (by unfold Pg.okI; rw [decide_eq_false (by simp only; omega)]))
            (go_upto_region 12 with fail; rw [HW3.out]; go_quiet ((go_at_call 77; exact Calls.quiet_of_same (HMO.out _))); go_wp2; go_ret; exact ⟨by rw [HNO.out] <;> rfl, HX3.out.drewN _⟩)
          by_cases t3 : a < 0
          · have HNO : Hid (Pg.may p = false) := Lib.hid (HNI.out j _ HXX.out (by unfold Pg.okI; rw [decide_eq_false (by simp only; omega)]))
            (go_upto_region 12 with fail; rw [HW3.out]; go_quiet ((go_at_call 77; exact Calls.quiet_of_same (HMO.out _))); go_wp2; go_ret; exact ⟨by rw [HNO.out] <;> rfl, HX3.out.drewN _⟩)
          obtain ⟨mo, hmo⟩ : ∃ mo, Pg.most p.length d = mo := ⟨_, rfl⟩
          have HMS : Hid (Pg.most p.length d = mo) := Lib.hid hmo
          have HM := HMO
          have HMO := Lib.hid (HM.out d)
          rw [hmo] at HMO
          by_cases t4 : mo < a
          · have HNO : Hid (Pg.may p = false) := Lib.hid (HNI.out j _ HXX.out (by unfold Pg.okI; rw [decide_eq_false (by simp only [HMS.out]; omega)]))
            clear hmo HM
            (go_upto_region 12 with fail; rw [HW3.out]; go_quiet ((go_at_call 77; exact Calls.quiet_of_same (HMO.out _))); go_wp2; go_ret; exact ⟨by rw [HNO.out] <;> rfl, HX3.out.drewN _⟩)
          · have t4' : a ≤ mo := by omega
            have HYES : Hid (Pg.okI p.length (d, a) = true) := Lib.hid (by unfold Pg.okI; rw [decide_eq_true (by simp only [HMS.out]; omega)])
            clear hmo HM
            go_upto_region 12 with fail
            rw [HW3.out]
            go_quiet ((go_at_call 77; exact Calls.quiet_of_same (HMO.out _)))
            go_wp2
            go_roundw
            case rel =>
              refine ⟨j + 1, by omega, by go_num, fun i y hi hij => ?_, HX3.out.drewN _⟩
              by_cases hij2 : i < j
              · exact HIN.out i y hi hij2
              · obtain rfl : i = j := by omega
                rw [HXX.out] at hi
                injection hi with hi
                rw [← hi]
                exact HYES.out
            case measure => simp [intOf]; omega
        · obtain rfl : j = l.length := by omega
          have HKC : Hid (Pg.okC p.length l = true) := Lib.hid (HYI.out fun i x hi => HIN.out i x hi (List.getElem?_eq_some_iff.1 hi).1)
          go_wp2
          go_roundw
          case rel =>
            refine ⟨k + 1, by omega, by go_num, fun i y hi hij => ?_, HX.out⟩
            by_cases hij2 : i < k
            · exact HALL.out i y hi hij2
            · obtain rfl : i = k := by omega
              rw [HL.out] at hi
              injection hi with hi
              rw [← hi]
              exact HKC.out
          case measure => simp [intOf]; omega
    · obtain rfl : k = p.length := by omega
      have HY : Hid (Pg.may p = true) := Lib.hid (HOK.out fun j l hj => HALL.out j l hj (List.getElem?_eq_some_iff.1 hj).1)
      go_wp2
      go_ret
      rw [HY.out]
      exact ⟨rfl, HX.out⟩
theorem some_eq {α : Type} {l : List α} {k : Nat} {x y : α} (h : l[k]? = some x) (h' : l[k]? = some y) : x = y := by rw [h] at h'; injection h'
set_option maxRecDepth 100000 in
set_option maxHeartbeats 4000000 in
theorem rgoods_any (h : StH) (s : St) (r : Bool) (hr : s.goods = r) (w : World) (hk : StOk w h s) (hf : StFew s) : Calls Try.prog 69 #[stV h s] w fun e w' => e = .returned (.bool r) ∧ Ext w w' := by
  subst hr
  have f1 := hf.gs
  have f2 := hf.prog.1
  have HPL := Lib.hid hf.prog.2
  have HK := Lib.hid hk
  obtain ⟨w1, hw1⟩ : ∃ w1, w.alloc (.cells #[.slice h.pa s.prog.length h.pc, .slice h.ga s.gs.length h.gc, .slice h.qa s.ps.length h.qc, .slice h.ma s.ms.length h.mc, .slice h.la s.glob.length h.lc, .int .i64 s.c0, .int .i64 s.c1, .int .i64 s.c2, .int .i64 s.c3, .slice h.a0 s.w0.length h.k0, .slice h.a1 s.w1.length h.k1, .slice h.a2 s.w2.length h.k2, .slice h.a3 s.w3.length h.k3, .slice h.ta s.timers.length h.tc, .int .i64 s.clock, .int .i64 s.procs] 47) = w1 := ⟨_, rfl⟩
  have HX1 : Hid (Ext w w1) := Lib.hid (by rw [← hw1]; exact (Ext.refl w).alloc _)
  have HB1 : Hid (w1.heap[w.heap.size]? = some (.cells (stC h s) 47 (0, 0))) := Lib.hid (by rw [← hw1]; exact blk_new w _)
  have HK1 := Lib.hid (hk.ext HX1.out)
  have HW1 := Lib.hid hw1
  clear hw1 hk
  clear hf
  unfold stV
  go_enter Try.func69, Try.ntmps69
  go_upto_region 1 with fail
  rw [HW1.out]
  generalize Value.agg #[.slice h.pa s.prog.length h.pc, .slice h.ga s.gs.length h.gc, .slice h.qa s.ps.length h.qc, .slice h.ma s.ms.length h.mc, .slice h.la s.glob.length h.lc, .int .i64 s.c0, .int .i64 s.c1, .int .i64 s.c2, .int .i64 s.c3, .slice h.a0 s.w0.length h.k0, .slice h.a1 s.w1.length h.k1, .slice h.a2 s.w2.length h.k2, .slice h.a3 s.w3.length h.k3, .slice h.ta s.timers.length h.tc, .int .i64 s.clock, .int .i64 s.procs] = sv0
  go_wp2_with fail
  go_loopw [3] (fun iv wr => ∃ k : Nat, k ≤ s.gs.length ∧ iv = .int .i64 k ∧ (∀ (j : Nat) g, s.gs[j]? = some g → j < k → s.good g = true) ∧ Ext w1 wr) (fun iv _ => s.gs.length - (intOf iv).toNat)
  case atStart => exact ⟨0, by omega, rfl, fun j l _ h => by omega, Ext.refl _⟩
  case round =>
    obtain ⟨k, hk, rfl, hall, hx⟩ := hrel
    have HALL := Lib.hid hall
    have HX := Lib.hid hx
    clear hall hx
    have q1 := st1 (HX.out.blk HB1.out)
    by_cases hlt : k < s.gs.length
    · obtain ⟨g, hg⟩ : ∃ g, s.gs[k]? = some g := ⟨_, List.getElem?_eq_getElem hlt⟩
      have HG := Lib.hid hg
      obtain ⟨b, o, hA, hb, p0, p1, p2, p3, p4⟩ := gs_get (HK1.out.ext HX.out).gs hg
      have HST : Hid (s.good g = false → s.goods = false) := Lib.hid fun h => all_no hg h
      obtain ⟨fn, pc, st, m, sq⟩ := g
      simp only at p0 p1 p2 p3 p4
      obtain ⟨w3, hw3⟩ : ∃ w3, wr.alloc (.cells #[.int .i64 fn, .int .i64 pc, .int .i64 st, .int .i64 m, .int .i64 sq] 72) = w3 := ⟨_, rfl⟩
      have HW3 := Lib.hid hw3
      have HX3 : Hid (Ext w1 w3) := Lib.hid (by rw [← hw3]; exact HX.out.alloc _)
      have hq : w3.heap[wr.heap.size]? = some (.cells #[.int .i64 fn, .int .i64 pc, .int .i64 st, .int .i64 m, .int .i64 sq] 72 (0, 0)) := by rw [← hw3]; exact blk_new wr _
      have z0 := blk_cell hq 0 _ rfl
      have z1 := blk_cell hq 1 _ rfl
      have z4 := blk_cell hq 4 _ rfl
      have y0 := st0 (HX3.out.blk HB1.out)
      clear hg hb hq hw3
      by_cases a1 : fn < 0
      · have HNO : Hid (s.goods = false) := Lib.hid (HST.out (by unfold St.good; rw [decide_eq_false (by simp only; omega)]; rfl))
        go_wp2_with (rw [HW3.out])
        (go_ret; exact ⟨by rw [HNO.out] <;> rfl, HX1.out.trans HX3.out⟩)
      obtain ⟨f, rfl⟩ : ∃ f : Nat, fn = f := ⟨fn.toNat, by omega⟩
      clear a1
      by_cases a2 : s.prog.length ≤ f
      · have HNO : Hid (s.goods = false) := Lib.hid (HST.out (by unfold St.good; rw [decide_eq_false (by simp only; omega)]; rfl))
        have a2' : (s.prog.length : Int) ≤ (f : Int) := by omega
        go_wp2_with (rw [HW3.out])
        (go_ret; exact ⟨by rw [HNO.out] <;> rfl, HX1.out.trans HX3.out⟩)
      have a2' : (f : Int) < (s.prog.length : Int) := by omega
      by_cases a3 : pc < 0
      · have HNO : Hid (s.goods = false) := Lib.hid (HST.out (by unfold St.good; rw [decide_eq_false (by simp only; omega)]; rfl))
        go_wp2_with (rw [HW3.out])
        (go_ret; exact ⟨by rw [HNO.out] <;> rfl, HX1.out.trans HX3.out⟩)
      have a3' : 0 ≤ pc := by omega
      cases hlow : St.low sq with
      | false =>
        have HNO : Hid (s.goods = false) := Lib.hid (HST.out (by unfold St.good; simp only [hlow]; simp))
        go_wp2_with (rw [HW3.out])
        refine (rlow_k sq false hlow _).mono ?_
        rintro e w' ⟨rfl, rfl⟩
        go_wp2
        (go_ret; exact ⟨by rw [HNO.out] <;> rfl, HX1.out.trans HX3.out⟩)
      | true =>
        obtain ⟨l, hl⟩ : ∃ l, s.prog[f]? = some l := ⟨_, List.getElem?_eq_getElem (by omega)⟩
        obtain ⟨b2, o2, B, d, hA2, hb2, hcu, hrow⟩ := (HK1.out.ext HX3.out).prog.get hl
        have hll := HPL.out l (List.mem_of_getElem? hl)
        have HGD : Hid (s.good ⟨f, pc, st, m, sq⟩ = decide (pc ≤ (l.length : Int))) := Lib.hid (by
          unfold St.good
          simp only [hlow]
          rw [decide_eq_true (show 0 ≤ (f : Int) ∧ (f : Int) < (s.prog.length : Int) ∧ 0 ≤ pc by omega), List.getD, Int.toNat_natCast, hl]
          simp)
        clear a2 a3 hb2 hrow hl
        go_wp2_with (rw [HW3.out])
        refine (rlow_k sq true hlow _).mono ?_
        rintro e w' ⟨rfl, rfl⟩
        go_upto_region 7 with fail
        by_cases a5 : (l.length : Int) < pc
        · have HNO : Hid (s.goods = false) := Lib.hid (HST.out (by rw [HGD.out, decide_eq_false (by omega)]))
          go_quiet (fail)
          go_wp2
          go_ret
          exact ⟨by rw [HNO.out] <;> rfl, HX1.out.trans (HX3.out.drewN _)⟩
        · have HYES : Hid (s.good ⟨f, pc, st, m, sq⟩ = true) := Lib.hid (by rw [HGD.out, decide_eq_true (by omega)])
          go_quiet (fail)
          go_wp2
          go_roundw
          case rel =>
            refine ⟨k + 1, by omega, by go_num, fun i y hi hij => ?_, HX3.out.drewN _⟩
            by_cases hij2 : i < k
            · exact HALL.out i y hi hij2
            · obtain rfl : i = k := by omega
              rw [← some_eq HG.out hi]
              exact HYES.out
          case measure => simp [intOf]; omega
    · obtain rfl : k = s.gs.length := by omega
      have HY : Hid (s.goods = true) := Lib.hid (all_yes fun j l hj => HALL.out j l hj (List.getElem?_eq_some_iff.1 hj).1)
      go_wp2
      go_ret
      exact ⟨by rw [HY.out] <;> rfl, HX1.out.trans HX.out⟩
theorem holdP_no1 {s : St} {i : Nat} {p : Pr} (h : p.ring.may = false) : s.holdP i p = false := by unfold St.holdP; rw [h]; rfl
theorem holdP_no2 {s : St} {i : Nat} {p : Pr} (h : St.low p.seq = false) : s.holdP i p = false := by unfold St.holdP; rw [h]; simp
theorem holdP_no3 {s : St} {i : Nat} {p : Pr} (h : ¬ (0 ≤ p.m ∧ p.m ≤ s.ms.length)) : s.holdP i p = false := by unfold St.holdP; rw [decide_eq_false h]; simp
theorem holdP_no4 {s : St} {i : Nat} {p : Pr} (h : ¬ (0 < p.m → (s.ms.getD (p.m - 1).toNat (0, 0)).1 = i + 1)) : s.holdP i p = false := by unfold St.holdP; rw [decide_eq_false h]; simp
theorem holdP_no5 {s : St} {i : Nat} {p : Pr} (h : s.procs ≤ i) (h2 : 0 < p.m ∨ p.next ≠ 0 ∨ 0 < p.ring.n) : s.holdP i p = false := by
  unfold St.holdP
  have : (decide (s.procs ≤ i) && (decide (0 < p.m) || decide (p.next ≠ 0) || decide (0 < p.ring.n))) = true := by simp [h]; omega
  rw [this]; simp
theorem holdP_yes {s : St} {i : Nat} {p : Pr} (h1 : p.ring.may = true) (h2 : St.low p.seq = true) (h3 : 0 ≤ p.m ∧ p.m ≤ s.ms.length) (h4 : 0 < p.m → (s.ms.getD (p.m - 1).toNat (0, 0)).1 = i + 1) (h5 : i < s.procs ∨ (p.m = 0 ∧ p.next = 0 ∧ ¬ 0 < p.ring.n)) : s.holdP i p = true := by
  unfold St.holdP
  rw [h1, h2, decide_eq_true h3, decide_eq_true h4]
  have : (decide (s.procs ≤ i) && (decide (0 < p.m) || decide (p.next ≠ 0) || decide (0 < p.ring.n))) = false := by
    rcases h5 with h | ⟨a, b, c⟩
    · rw [decide_eq_false (by omega)]; rfl
    · rw [a, b]; simp; omega
  rw [this]; rfl
set_option maxRecDepth 100000 in
set_option maxHeartbeats 8000000 in
theorem rholds_any (h : StH) (s : St) (r : Bool) (hr : s.holds = r) (w : World) (hk : StOk w h s) (hf : StFew s) : Calls Try.prog 70 #[stV h s] w fun e w' => e = .returned (.bool r) ∧ Ext w w' := by
  subst hr
  have f1 := hf.ps
  have f2 := hf.ms
  have HK := Lib.hid hk
  obtain ⟨w1, hw1⟩ : ∃ w1, w.alloc (.cells #[.slice h.pa s.prog.length h.pc, .slice h.ga s.gs.length h.gc, .slice h.qa s.ps.length h.qc, .slice h.ma s.ms.length h.mc, .slice h.la s.glob.length h.lc, .int .i64 s.c0, .int .i64 s.c1, .int .i64 s.c2, .int .i64 s.c3, .slice h.a0 s.w0.length h.k0, .slice h.a1 s.w1.length h.k1, .slice h.a2 s.w2.length h.k2, .slice h.a3 s.w3.length h.k3, .slice h.ta s.timers.length h.tc, .int .i64 s.clock, .int .i64 s.procs] 47) = w1 := ⟨_, rfl⟩
  have HX1 : Hid (Ext w w1) := Lib.hid (by rw [← hw1]; exact (Ext.refl w).alloc _)
  have HB1 : Hid (w1.heap[w.heap.size]? = some (.cells (stC h s) 47 (0, 0))) := Lib.hid (by rw [← hw1]; exact blk_new w _)
  have HK1 := Lib.hid (hk.ext HX1.out)
  have HW1 := Lib.hid hw1
  clear hw1 hk
  clear hf
  have HSTP : Hid (∀ (i : Nat) p, s.ps[i]? = some p → s.holdP i p = false → s.holds = false) := Lib.hid fun i p hp h => by unfold St.holds; rw [allIx_no hp h]; rfl
  have HSTM : Hid (∀ (i : Nat) m, s.ms[i]? = some m → s.holdM i m = false → s.holds = false) := Lib.hid fun i p hp h => by unfold St.holds; rw [allIx_no hp h, Bool.and_false]
  unfold stV
  go_enter Try.func70, Try.ntmps70
  go_upto_region 1 with fail
  rw [HW1.out]
  generalize Value.agg #[.slice h.pa s.prog.length h.pc, .slice h.ga s.gs.length h.gc, .slice h.qa s.ps.length h.qc, .slice h.ma s.ms.length h.mc, .slice h.la s.glob.length h.lc, .int .i64 s.c0, .int .i64 s.c1, .int .i64 s.c2, .int .i64 s.c3, .slice h.a0 s.w0.length h.k0, .slice h.a1 s.w1.length h.k1, .slice h.a2 s.w2.length h.k2, .slice h.a3 s.w3.length h.k3, .slice h.ta s.timers.length h.tc, .int .i64 s.clock, .int .i64 s.procs] = sv0
  go_wp2_with fail
  go_loopw [3] (fun iv wr => ∃ k : Nat, k ≤ s.ps.length ∧ iv = .int .i64 k ∧ (∀ (j : Nat) g, s.ps[j]? = some g → j < k → s.holdP j g = true) ∧ Ext w1 wr) (fun iv _ => s.ps.length - (intOf iv).toNat)
  case atStart => exact ⟨0, by omega, rfl, fun j l _ h => by omega, Ext.refl _⟩
  case round =>
    obtain ⟨k, hk, rfl, hall, hx⟩ := hrel
    have HALL := Lib.hid hall
    have HX := Lib.hid hx
    clear hall hx
    have q2 := st2 (HX.out.blk HB1.out)
    by_cases hlt : k < s.ps.length
    · obtain ⟨p, hp⟩ : ∃ p, s.ps[k]? = some p := ⟨_, List.getElem?_eq_getElem hlt⟩
      obtain ⟨m, nx, r, sq⟩ := p
      obtain ⟨b0, b1, b2, b3, b4, b5, b6, b7, hd, nn, rfl⟩ := Ri.open8 (HK.out.buf _ (List.mem_of_getElem? hp))
      have HG := Lib.hid hp
      have HST := Lib.hid (HSTP.out k _ hp)
      obtain ⟨b, o, hA, hb, hc⟩ := ps_get (HK1.out.ext HX.out).ps hp
      obtain ⟨⟨p0, p1, p2, p3, p4, p5, p6⟩, p7, p8, p9, p10, p11, p12⟩ := hc
      obtain ⟨w3, hw3⟩ : ∃ w3, wr.alloc (.cells #[.int .i64 m, .int .i64 nx, .int .i64 b0, .int .i64 b1, .int .i64 b2, .int .i64 b3, .int .i64 b4, .int .i64 b5, .int .i64 b6, .int .i64 b7, .int .i64 hd, .int .i64 nn, .int .i64 sq] 77) = w3 := ⟨_, rfl⟩
      have HW3 := Lib.hid hw3
      have HX3 : Hid (Ext w1 w3) := Lib.hid (by rw [← hw3]; exact HX.out.alloc _)
      have HQ3 : Hid (w3.heap[wr.heap.size]? = some (.cells #[.int .i64 m, .int .i64 nx, .int .i64 b0, .int .i64 b1, .int .i64 b2, .int .i64 b3, .int .i64 b4, .int .i64 b5, .int .i64 b6, .int .i64 b7, .int .i64 hd, .int .i64 nn, .int .i64 sq] 77 (0, 0))) := Lib.hid (by rw [← hw3]; exact blk_new wr _)
      obtain ⟨mr, hmr⟩ : ∃ mr, Ri.may ⟨[b0, b1, b2, b3, b4, b5, b6, b7], hd, nn⟩ = mr := ⟨_, rfl⟩
      have HMR := Lib.hid hmr
      have HRM := Lib.hid (rrmay_k b0 b1 b2 b3 b4 b5 b6 b7 hd nn mr hmr w3)
      clear hp hb hw3 hmr
      go_upto_region 5 with fail
      rw [HW3.out]
      clear p0 p1 p2 p3 p4 p5 p6 p7 p8 p9 p10 p11 p12
      obtain ⟨⟨p0, p1, p2, p3, p4, p5, p6⟩, p7, p8, p9, p10, p11, p12⟩ := cells13 HQ3.out
      go_wp2_with fail
      refine HRM.out.mono ?_
      rintro e w4 ⟨rfl, hx4⟩
      have HX4 := Lib.hid (HX3.out.trans hx4)
      have HQ4 := Lib.hid (hx4.blk HQ3.out)
      clear p0 p1 p2 p3 p4 p5 p6 p7 p8 p9 p10 p11 p12
      clear hx4 q2 hA
      have y3 := st3 (HX4.out.blk HB1.out)
      have y15 := st15 (HX4.out.blk HB1.out)
      have z0 := blk_cell HQ4.out 0 _ rfl
      have z1 := blk_cell HQ4.out 1 _ rfl
      have z11 := blk_cell HQ4.out 11 _ rfl
      have z12 := blk_cell HQ4.out 12 _ rfl
      cases mr with
      | false =>
        have HNO : Hid (s.holds = false) := Lib.hid (HST.out (holdP_no1 HMR.out))
        go_wp2
        (go_ret; exact ⟨by rw [HNO.out] <;> rfl, HX1.out.trans HX4.out⟩)
      | true =>
      cases hlow : St.low sq with
      | false =>
        have HNO : Hid (s.holds = false) := Lib.hid (HST.out (holdP_no2 hlow))
        go_wp2_with fail
        refine (rlow_k sq false hlow _).mono ?_
        rintro e w' ⟨rfl, rfl⟩
        go_wp2
        (go_ret; exact ⟨by rw [HNO.out] <;> rfl, HX1.out.trans HX4.out⟩)
      | true =>
        go_wp2_with fail
        refine (rlow_k sq true hlow _).mono ?_
        rintro e w' ⟨rfl, rfl⟩
        by_cases a3 : m < 0
        · have HNO : Hid (s.holds = false) := Lib.hid (HST.out (holdP_no3 (by simp only; omega)))
          go_wp2
          (go_ret; exact ⟨by rw [HNO.out] <;> rfl, HX1.out.trans HX4.out⟩)
        obtain ⟨mm, rfl⟩ : ∃ mm : Nat, m = mm := ⟨m.toNat, by omega⟩
        clear a3
        by_cases a4 : s.ms.length < mm
        · have HNO : Hid (s.holds = false) := Lib.hid (HST.out (holdP_no3 (by simp only; omega)))
          have a4' : (s.ms.length : Int) < (mm : Int) := by omega
          go_wp2
          (go_ret; exact ⟨by rw [HNO.out] <;> rfl, HX1.out.trans HX4.out⟩)
        have a4' : (mm : Int) ≤ (s.ms.length : Int) := by omega
        have HM3 : Hid (0 ≤ (mm : Int) ∧ (mm : Int) ≤ s.ms.length) := Lib.hid ⟨by omega, a4'⟩
        have HLOW := Lib.hid hlow
        clear a4 hlow
        obtain rfl | ⟨j, rfl⟩ : mm = 0 ∨ ∃ j, mm = j + 1 := by cases mm <;> simp
        · simp only [Int.natCast_zero] at *
          by_cases d1 : (k : Int) < s.procs
          · have HYES : Hid (s.holdP k ⟨0, nx, ⟨[b0, b1, b2, b3, b4, b5, b6, b7], hd, nn⟩, sq⟩ = true) := Lib.hid (holdP_yes HMR.out HLOW.out HM3.out (fun h => by simp at h) (.inl d1))
            go_wp2
            go_roundw
            case rel =>
              refine ⟨k + 1, by omega, by go_num, fun i y hi hij => ?_, HX4.out⟩
              by_cases hij2 : i < k
              · exact HALL.out i y hi hij2
              · obtain rfl : i = k := by omega
                rw [← some_eq HG.out hi]
                exact HYES.out
            case measure => simp [intOf]; omega
          · by_cases d2 : nx = 0
            · subst d2
              by_cases d3 : 0 < nn
              · have HNO : Hid (s.holds = false) := Lib.hid (HST.out (holdP_no5 (by omega) (.inr (.inr d3))))
                go_wp2
                (go_ret; exact ⟨by rw [HNO.out] <;> rfl, HX1.out.trans HX4.out⟩)
              · have HYES : Hid (s.holdP k ⟨0, 0, ⟨[b0, b1, b2, b3, b4, b5, b6, b7], hd, nn⟩, sq⟩ = true) := Lib.hid (holdP_yes HMR.out HLOW.out HM3.out (fun h => by simp at h) (.inr ⟨rfl, rfl, d3⟩))
                go_wp2
                go_roundw
                case rel =>
                  refine ⟨k + 1, by omega, by go_num, fun i y hi hij => ?_, HX4.out⟩
                  by_cases hij2 : i < k
                  · exact HALL.out i y hi hij2
                  · obtain rfl : i = k := by omega
                    rw [← some_eq HG.out hi]
                    exact HYES.out
                case measure => simp [intOf]; omega
            · have HNO : Hid (s.holds = false) := Lib.hid (HST.out (holdP_no5 (by omega) (.inr (.inl d2))))
              have d2' : (nx != 0) = true := by simpa using d2
              clear d2
              go_wp2
              (go_ret; exact ⟨by rw [HNO.out] <;> rfl, HX1.out.trans HX4.out⟩)
        · obtain ⟨x, hx⟩ : ∃ x, s.ms[j]? = some x := ⟨_, List.getElem?_eq_getElem (by omega)⟩
          obtain ⟨bm, om, hAm, hbm, c0, c1⟩ := frs2_get (HK1.out.ext HX4.out).ms hx
          have HMX : Hid ((s.ms.getD (((j + 1 : Nat) : Int) - 1).toNat (0, 0)).1 = x.1) := Lib.hid (by
            rw [show (((j + 1 : Nat) : Int) - 1).toNat = j by omega, List.getD, hx]; rfl)
          have e1 : ((j + 1 : Nat) : Int) - 1 = (j : Int) := by omega
          have e2 : max (j : Int) 0 = (j : Int) := by omega
          have e3 : (0 : Int) < ((j + 1 : Nat) : Int) := by omega
          have e4 : (j : Int) < (s.ms.length : Int) := by omega
          obtain ⟨xp, xg⟩ := x
          simp only at HMX c0
          clear hx hbm c1
          by_cases d0 : xp = (k : Int) + 1
          · subst d0
            by_cases d1 : (k : Int) < s.procs
            · have HYES : Hid (s.holdP k ⟨((j + 1 : Nat) : Int), nx, ⟨[b0, b1, b2, b3, b4, b5, b6, b7], hd, nn⟩, sq⟩ = true) := Lib.hid (holdP_yes HMR.out HLOW.out HM3.out (fun _ => HMX.out) (.inl d1))
              go_wp2
              go_roundw
              case rel =>
                refine ⟨k + 1, by omega, by go_num, fun i y hi hij => ?_, HX4.out⟩
                by_cases hij2 : i < k
                · exact HALL.out i y hi hij2
                · obtain rfl : i = k := by omega
                  rw [← some_eq HG.out hi]
                  exact HYES.out
              case measure => simp [intOf]; omega
            · have HNO : Hid (s.holds = false) := Lib.hid (HST.out (holdP_no5 (by omega) (.inl (by simp only; omega))))
              go_wp2
              (go_ret; exact ⟨by rw [HNO.out] <;> rfl, HX1.out.trans HX4.out⟩)
          · have HNO : Hid (s.holds = false) := Lib.hid (HST.out (holdP_no4 (fun h => d0 (by have := h (by simp only; omega); simp only [HMX.out] at this; exact this))))
            have d0' : (xp != (k : Int) + 1) = true := by simpa using d0
            clear d0
            go_wp2
            (go_ret; exact ⟨by rw [HNO.out] <;> rfl, HX1.out.trans HX4.out⟩)
    · obtain rfl : k = s.ps.length := by omega
      have HP : Hid (allIx s.holdP 0 s.ps = true) := Lib.hid (allIx_yes fun j l hj => HALL.out j l hj (List.getElem?_eq_some_iff.1 hj).1)
      clear HALL
      obtain ⟨wo, rfl⟩ : ∃ wo, wo = wr := ⟨_, rfl⟩
      go_wp2_with fail
      clear q2
      generalize Value.slice h.qa s.ps.length h.qc = sv9
      go_loopw [5] (fun iv wr => ∃ k : Nat, k ≤ s.ms.length ∧ iv = .int .i64 k ∧ (∀ (j : Nat) g, s.ms[j]? = some g → j < k → s.holdM j g = true) ∧ Ext w1 wr) (fun iv _ => s.ms.length - (intOf iv).toNat)
      case atStart => exact ⟨0, by omega, rfl, fun j l _ h => by omega, HX.out⟩
      case round =>
        clear HX
        obtain ⟨k, hk, rfl, hall, hx⟩ := hrel
        have HALL := Lib.hid hall
        have HX := Lib.hid hx
        clear hall hx
        have q3 := st3 (HX.out.blk HB1.out)
        by_cases hlt : k < s.ms.length
        · obtain ⟨x, hx⟩ : ∃ x, s.ms[k]? = some x := ⟨_, List.getElem?_eq_getElem hlt⟩
          have HG := Lib.hid hx
          have HST := Lib.hid (HSTM.out k _ hx)
          obtain ⟨b, o, hA, hb, c0, c1⟩ := frs2_get (HK1.out.ext HX.out).ms hx
          obtain ⟨m, g⟩ := x
          simp only at c0 c1
          obtain ⟨w3, hw3⟩ : ∃ w3, wr.alloc (.cells #[.int .i64 m, .int .i64 g] 119) = w3 := ⟨_, rfl⟩
          have HW3 := Lib.hid hw3
          have HX4 : Hid (Ext w1 w3) := Lib.hid (by rw [← hw3]; exact HX.out.alloc _)
          have hq : w3.heap[wr.heap.size]? = some (.cells #[.int .i64 m, .int .i64 g] 119 (0, 0)) := by rw [← hw3]; exact blk_new wr _
          have z0 := blk_cell hq 0 _ rfl
          have y2 := st2 (HX4.out.blk HB1.out)
          clear hx hb hw3 hq
          by_cases a3 : m < 0
          · have HNO : Hid (s.holds = false) := Lib.hid (HST.out (by unfold St.holdM; rw [decide_eq_false (by simp only; omega)]; rfl))
            go_wp2_with (rw [HW3.out])
            (go_ret; exact ⟨by rw [HNO.out] <;> rfl, HX1.out.trans HX4.out⟩)
          have a3' : 0 ≤ m := by omega
          clear a3
          by_cases a4 : (s.ps.length : Int) < m
          · have HNO : Hid (s.holds = false) := Lib.hid (HST.out (by unfold St.holdM; rw [decide_eq_false (by simp only; omega)]; rfl))
            go_wp2_with (rw [HW3.out])
            (go_ret; exact ⟨by rw [HNO.out] <;> rfl, HX1.out.trans HX4.out⟩)
          have a4' : m ≤ (s.ps.length : Int) := by omega
          have HM3 : Hid (0 ≤ m ∧ m ≤ s.ps.length) := Lib.hid ⟨a3', a4'⟩
          clear a4
          obtain rfl | ⟨j, rfl⟩ : m = 0 ∨ ∃ j : Nat, m = (j : Int) + 1 := by
            by_cases h : m = 0
            · exact .inl h
            · exact .inr ⟨(m - 1).toNat, by omega⟩
          · have HYES : Hid (s.holdM k (0, g) = true) := Lib.hid (by unfold St.holdM; rw [decide_eq_true HM3.out, decide_eq_true (fun h => by simp at h)]; rfl)
            go_wp2_with (rw [HW3.out])
            go_roundw
            case rel =>
              refine ⟨k + 1, by omega, by go_num, fun i y hi hij => ?_, HX4.out⟩
              by_cases hij2 : i < k
              · exact HALL.out i y hi hij2
              · obtain rfl : i = k := by omega
                rw [← some_eq HG.out hi]
                exact HYES.out
            case measure => simp [intOf]; omega
          · obtain ⟨p, hp⟩ : ∃ p, s.ps[j]? = some p := ⟨_, List.getElem?_eq_getElem (by omega)⟩
            obtain ⟨pm, nx, r, sq⟩ := p
            obtain ⟨b0, b1, b2, b3, b4, b5, b6, b7, hd, nn, rfl⟩ := Ri.open8 (HK.out.buf _ (List.mem_of_getElem? hp))
            obtain ⟨bp, op, hAp, hbp, hcp⟩ := ps_get (HK1.out.ext HX4.out).ps hp
            have c0' := hcp.1.1
            have HMX : Hid ((s.ps.getD ((j : Int) + 1 - 1).toNat St.nilP).m = pm) := Lib.hid (by
              rw [show ((j : Int) + 1 - 1).toNat = j by omega, List.getD, hp]; rfl)
            have e1 : (j : Int) + 1 - 1 = (j : Int) := by omega
            have e2 : max (j : Int) 0 = (j : Int) := by omega
            have e3 : (0 : Int) < ((j : Int) + 1) := by omega
            have e4 : (j : Int) < (s.ps.length : Int) := by omega
            clear hcp hp hbp
            by_cases d0 : pm = (k : Int) + 1
            · subst d0
              have HYES : Hid (s.holdM k (((j : Int) + 1), g) = true) := Lib.hid (by unfold St.holdM; rw [decide_eq_true HM3.out, decide_eq_true (fun _ => HMX.out)]; rfl)
              go_wp2_with (rw [HW3.out])
              go_roundw
              case rel =>
                refine ⟨k + 1, by omega, by go_num, fun i y hi hij => ?_, HX4.out⟩
                by_cases hij2 : i < k
                · exact HALL.out i y hi hij2
                · obtain rfl : i = k := by omega
                  rw [← some_eq HG.out hi]
                  exact HYES.out
              case measure => simp [intOf]; omega
            · have HNO : Hid (s.holds = false) := Lib.hid (HST.out (by
                unfold St.holdM
                rw [decide_eq_false (p := 0 < ((((j : Int) + 1), g) : Int × Int).1 → _) (fun h => d0 (by have := h (by simp only; omega); simp only [HMX.out] at this; exact this)), Bool.and_false]))
              have d0' : (pm != (k : Int) + 1) = true := by simpa using d0
              clear d0
              go_wp2_with (rw [HW3.out])
              (go_ret; exact ⟨by rw [HNO.out] <;> rfl, HX1.out.trans HX4.out⟩)
        · obtain rfl : k = s.ms.length := by omega
          have HY : Hid (s.holds = true) := Lib.hid (by unfold St.holds; rw [HP.out, allIx_yes fun j l hj => HALL.out j l hj (List.getElem?_eq_some_iff.1 hj).1]; rfl)
          go_wp2
          go_ret
          exact ⟨by rw [HY.out] <;> rfl, HX1.out.trans HX.out⟩
def wiB (n lo hi : Int) : Bool := decide (lo ≤ n ∧ n ≤ hi)
theorem wiB_yes {n lo hi : Int} (h : lo ≤ n) (h2 : n ≤ hi) : wiB n lo hi = true := decide_eq_true ⟨h, h2⟩
theorem wiB_no {n lo hi : Int} (h : ¬ (lo ≤ n ∧ n ≤ hi)) : wiB n lo hi = false := decide_eq_false h
theorem wiB_iff {n lo hi : Int} : wiB n lo hi = true ↔ lo ≤ n ∧ n ≤ hi := by unfold wiB; exact decide_eq_true_iff
set_option maxHeartbeats 1000000 in
theorem swithin_any (n lo hi : Int) (w : World) : Calls Try.prog 86 #[.int .i64 n, .int .i64 lo, .int .i64 hi] w fun e w' => e = .returned (.bool (wiB n lo hi)) ∧ w' = w := by
  by_cases h0 : lo ≤ n
  · by_cases h1 : n ≤ hi
    · rw [wiB_yes h0 h1]
      go_enter Try.func86, Try.ntmps86
      go_wp2
      go_ret
      exact ⟨rfl, rfl⟩
    · rw [wiB_no (fun h => h1 h.2)]
      have h1' : decide (n ≤ hi) = false := by simpa using h1
      clear h1
      go_enter Try.func86, Try.ntmps86
      go_wp2
      go_ret
      exact ⟨rfl, rfl⟩
  · rw [wiB_no (fun h => h0 h.1)]
    have h0' : decide (lo ≤ n) = false := by simpa using h0
    clear h0
    go_enter Try.func86, Try.ntmps86
    go_wp2
    go_ret
    exact ⟨rfl, rfl⟩
theorem low_wiB (n : Int) : wiB n 0 2305843009213693951 = St.low n := by
  unfold wiB St.low
  congr 1
  simp only [eq_iff_iff]
  omega
set_option maxHeartbeats 1000000 in
theorem smayNumber_any (n : Int) (w : World) : Calls Try.prog 87 #[.int .i64 n] w fun e w' => e = .returned (.bool (St.low n)) ∧ w' = w := by
  have H := Lib.hid (swithin_any n 0 2305843009213693951 w)
  rw [low_wiB] at H
  generalize St.low n = b at *
  go_enter Try.func87, Try.ntmps87
  go_wp2_with fail
  refine H.out.mono ?_
  rintro e w' ⟨rfl, rfl⟩
  go_wp2
  go_ret
  exact ⟨rfl, rfl⟩
def St.pGood (s : St) (g : Gr) : Bool := s.good g && wiB g.st 1 5
set_option maxRecDepth 100000 in
set_option maxHeartbeats 8000000 in
theorem smayGs_any (h : StH) (s : St) (r : Bool) (hr : s.gs.all s.pGood = r) (w : World) (hk : StOk w h s) (hf : StFew s) : Calls Try.prog 63 #[stV h s] w fun e w' => e = .returned (.bool r) ∧ Ext w w' := by
  subst hr
  have f1 := hf.gs
  have f2 := hf.prog.1
  have HPL := Lib.hid hf.prog.2
  have HWI : Hid (∀ (n lo hi : Int) (w : World), Calls Try.prog 86 #[.int .i64 n, .int .i64 lo, .int .i64 hi] w fun e w' => e = .returned (.bool (wiB n lo hi)) ∧ w' = w) := Lib.hid swithin_any
  have HK := Lib.hid hk
  obtain ⟨w1, hw1⟩ : ∃ w1, w.alloc (.cells #[.slice h.pa s.prog.length h.pc, .slice h.ga s.gs.length h.gc, .slice h.qa s.ps.length h.qc, .slice h.ma s.ms.length h.mc, .slice h.la s.glob.length h.lc, .int .i64 s.c0, .int .i64 s.c1, .int .i64 s.c2, .int .i64 s.c3, .slice h.a0 s.w0.length h.k0, .slice h.a1 s.w1.length h.k1, .slice h.a2 s.w2.length h.k2, .slice h.a3 s.w3.length h.k3, .slice h.ta s.timers.length h.tc, .int .i64 s.clock, .int .i64 s.procs] 47) = w1 := ⟨_, rfl⟩
  have HX1 : Hid (Ext w w1) := Lib.hid (by rw [← hw1]; exact (Ext.refl w).alloc _)
  have HB1 : Hid (w1.heap[w.heap.size]? = some (.cells (stC h s) 47 (0, 0))) := Lib.hid (by rw [← hw1]; exact blk_new w _)
  have HK1 := Lib.hid (hk.ext HX1.out)
  have HW1 := Lib.hid hw1
  clear hw1 hk
  clear hf
  have q1a := st1 HB1.out
  unfold stV
  go_enter Try.func63, Try.ntmps63
  go_upto_region 1 with fail
  rw [HW1.out]
  generalize Value.agg #[.slice h.pa s.prog.length h.pc, .slice h.ga s.gs.length h.gc, .slice h.qa s.ps.length h.qc, .slice h.ma s.ms.length h.mc, .slice h.la s.glob.length h.lc, .int .i64 s.c0, .int .i64 s.c1, .int .i64 s.c2, .int .i64 s.c3, .slice h.a0 s.w0.length h.k0, .slice h.a1 s.w1.length h.k1, .slice h.a2 s.w2.length h.k2, .slice h.a3 s.w3.length h.k3, .slice h.ta s.timers.length h.tc, .int .i64 s.clock, .int .i64 s.procs] = sv0
  go_wp2_with fail
  clear q1a
  obtain ⟨ga, hga⟩ : ∃ ga, h.ga = ga := ⟨_, rfl⟩
  have HGA := Lib.hid hga
  rw [hga]
  clear hga
  go_loopw [8] (fun iv wr => ∃ k : Nat, k ≤ s.gs.length ∧ iv = .int .i64 k ∧ (∀ (j : Nat) g, s.gs[j]? = some g → j < k → s.pGood g = true) ∧ Ext w1 wr) (fun iv _ => s.gs.length - (intOf iv).toNat)
  case atStart => exact ⟨0, by omega, rfl, fun j l _ h => by omega, Ext.refl _⟩
  case round =>
    obtain ⟨k, hk, rfl, hall, hx⟩ := hrel
    have HALL := Lib.hid hall
    have HX := Lib.hid hx
    clear hall hx
    by_cases hlt : k < s.gs.length
    · obtain ⟨g, hg⟩ : ∃ g, s.gs[k]? = some g := ⟨_, List.getElem?_eq_getElem hlt⟩
      have HG := Lib.hid hg
      have HST : Hid (s.pGood g = false → s.gs.all s.pGood = false) := Lib.hid fun h => all_no hg h
      obtain ⟨b, o, hA, hb, p0, p1, p2, p3, p4⟩ := gs_get (HK1.out.ext HX.out).gs hg
      rw [HGA.out] at hA
      subst hA
      obtain ⟨fn, pc, st, m, sq⟩ := g
      simp only at p0 p1 p2 p3 p4
      obtain ⟨w3, hw3⟩ : ∃ w3, wr.alloc (.cells #[.int .i64 fn, .int .i64 pc, .int .i64 st, .int .i64 m, .int .i64 sq] 72) = w3 := ⟨_, rfl⟩
      have HW3 := Lib.hid hw3
      have HX3 : Hid (Ext w1 w3) := Lib.hid (by rw [← hw3]; exact HX.out.alloc _)
      have HQ : Hid (w3.heap[wr.heap.size]? = some (.cells #[.int .i64 fn, .int .i64 pc, .int .i64 st, .int .i64 m, .int .i64 sq] 72 (0, 0))) := Lib.hid (by rw [← hw3]; exact blk_new wr _)
      clear hg hb hw3
      go_upto_region 4 with fail
      rw [HW3.out]
      clear p0 p1 p2 p3 p4
      have z0 := blk_cell HQ.out 0 _ rfl
      have z1 := blk_cell HQ.out 1 _ rfl
      have y0 := st0 (HX3.out.blk HB1.out)
      have e0 : IntKind.i64.wrap ((s.prog.length : Int) - 1) = (s.prog.length : Int) - 1 := IntWalk.i64_in _ (by omega)
      cases b1 : wiB fn 0 ((s.prog.length : Int) - 1) with
      | false =>
        have HNO : Hid (s.gs.all s.pGood = false) := Lib.hid (HST.out (by
          unfold St.pGood St.good
          have hn : ¬ (0 ≤ fn ∧ fn ≤ (s.prog.length : Int) - 1) := fun h => by rw [wiB_iff.2 h] at b1; cases b1
          rw [decide_eq_false (by simp only; omega)]
          rfl))
        go_quiet ((go_at_call 86; exact Calls.quiet_of_same (HWI.out _ _ _ _)))
        go_wp2
        (go_ret; exact ⟨by rw [HNO.out] <;> rfl, HX1.out.trans (HX3.out.drewN _)⟩)
      | true =>
        obtain ⟨fb1, fb2⟩ := wiB_iff.1 b1
        obtain ⟨f, rfl⟩ : ∃ f : Nat, fn = f := ⟨fn.toNat, by omega⟩
        obtain ⟨l, hl⟩ : ∃ l, s.prog[f]? = some l := ⟨_, List.getElem?_eq_getElem (by omega)⟩
        obtain ⟨b2, o2, B, d, hA2, hb2, hcu, hrow⟩ := (HK1.out.ext HX3.out).prog.get hl
        have hll := HPL.out l (List.mem_of_getElem? hl)
        have i0 : (0 : Int) ≤ (f : Int) := by omega
        have i1 : (f : Int) < (s.prog.length : Int) := by omega
        have HGD : Hid (s.pGood ⟨f, pc, st, m, sq⟩ = (decide (0 ≤ pc ∧ pc ≤ (l.length : Int)) && St.low sq && wiB st 1 5)) := Lib.hid (by
          unfold St.pGood St.good
          simp only [List.getD, Int.toNat_natCast, hl, Option.getD_some]
          by_cases hp : 0 ≤ pc
          · rw [decide_eq_true (show 0 ≤ (f : Int) ∧ (f : Int) < (s.prog.length : Int) ∧ 0 ≤ pc by omega)]
            by_cases hp2 : pc ≤ (l.length : Int)
            · rw [decide_eq_true hp2, decide_eq_true (show 0 ≤ pc ∧ pc ≤ (l.length : Int) from ⟨hp, hp2⟩)]
              simp
            · rw [decide_eq_false hp2, decide_eq_false (show ¬ (0 ≤ pc ∧ pc ≤ (l.length : Int)) from fun h => hp2 h.2)]
              simp
          · rw [decide_eq_false (show ¬ (0 ≤ (f : Int) ∧ (f : Int) < (s.prog.length : Int) ∧ 0 ≤ pc) from fun h => hp h.2.2), decide_eq_false (show ¬ (0 ≤ pc ∧ pc ≤ (l.length : Int)) from fun h => hp h.1)]
            rfl)
        clear fb1 fb2 hb2 hrow hl
        cases bb : wiB pc 0 (l.length : Int) with
        | false =>
          have HNO : Hid (s.gs.all s.pGood = false) := Lib.hid (HST.out (by
            rw [HGD.out, decide_eq_false (fun h => by rw [wiB_iff.2 h] at bb; cases bb)]; rfl))
          go_quiet ((go_at_call 86; exact Calls.quiet_of_same (HWI.out _ _ _ _)))
          go_wp2
          (go_ret; exact ⟨by rw [HNO.out] <;> rfl, HX1.out.trans (HX3.out.drewN _)⟩)
        | true =>
          have HPC := Lib.hid (wiB_iff.1 bb)
          go_quiet ((go_at_call 86; exact Calls.quiet_of_same (HWI.out _ _ _ _)))
          clear z0 z1 y0 hA2 hcu e0 b1 bb
          have z2 := blk_cell (((Ext.refl w3).drewN nq).blk HQ.out) 2 _ rfl
          have z4 := blk_cell (((Ext.refl w3).drewN nq).blk HQ.out) 4 _ rfl
          have HXD : Hid (Ext w1 (w3.drewN nq)) := Lib.hid (HX3.out.drewN _)
          obtain ⟨wd, hwd⟩ : ∃ wd, w3.drewN nq = wd := ⟨_, rfl⟩
          rw [hwd] at z2 z4 HXD ⊢
          clear hwd
          go_wp2_with fail
          refine (HWI.out st 1 5 _).mono ?_
          rintro e w' ⟨rfl, rfl⟩
          cases bs : wiB st 1 5 with
          | false =>
            have HNO : Hid (s.gs.all s.pGood = false) := Lib.hid (HST.out (by rw [HGD.out, bs, Bool.and_false]))
            go_wp2
            go_ret
            exact ⟨by rw [HNO.out] <;> rfl, HX1.out.trans HXD.out⟩
          | true =>
            go_wp2_with fail
            refine (smayNumber_any sq _).mono ?_
            rintro e w' ⟨rfl, rfl⟩
            cases bl : St.low sq with
            | false =>
              have HNO : Hid (s.gs.all s.pGood = false) := Lib.hid (HST.out (by rw [HGD.out, bl, Bool.and_false]; rfl))
              go_wp2
              go_ret
              exact ⟨by rw [HNO.out] <;> rfl, HX1.out.trans HXD.out⟩
            | true =>
              have HYES : Hid (s.pGood ⟨f, pc, st, m, sq⟩ = true) := Lib.hid (by rw [HGD.out, bl, bs, decide_eq_true HPC.out]; rfl)
              go_wp2
              go_roundw
              case rel =>
                refine ⟨k + 1, by omega, by go_num, fun i y hi hij => ?_, HXD.out⟩
                by_cases hij2 : i < k
                · exact HALL.out i y hi hij2
                · obtain rfl : i = k := by omega
                  rw [← some_eq HG.out hi]
                  exact HYES.out
              case measure => simp [intOf]; omega
    · obtain rfl : k = s.gs.length := by omega
      have HY : Hid (s.gs.all s.pGood = true) := Lib.hid (all_yes fun j l hj => HALL.out j l hj (List.getElem?_eq_some_iff.1 hj).1)
      go_wp2
      go_ret
      exact ⟨by rw [HY.out] <;> rfl, HX1.out.trans HX.out⟩
def St.holdG (s : St) (i : Nat) (g : Gr) : Bool :=
  if g.st ≠ 2 ∧ g.st ≠ 4 then g.m == 0 else wiB g.m 1 s.ms.length && ((s.ms.getD (g.m - 1).toNat (0, 0)).2 == (i : Int) + 1 && (((s.ms.getD (g.m - 1).toNat (0, 0)).1 != 0) == (g.st == 2)))
set_option maxRecDepth 100000 in
set_option maxHeartbeats 8000000 in
theorem smayHold_any (h : StH) (s : St) (k : Nat) (g : Gr) (hg : s.gs[k]? = some g) (r : Bool) (hr : s.holdG k g = r) (w : World) (hk : StOk w h s) (hf : StFew s) : Calls Try.prog 92 #[stV h s, .int .i64 ((k : Int) + 1)] w fun e w' => e = .returned (.bool r) ∧ Ext w w' := by
  have f1 := hf.gs
  have f2 := hf.ms
  have hlt : k < s.gs.length := (List.getElem?_eq_some_iff.1 hg).1
  have hkb : (k : Int) < (s.gs.length : Int) := by omega
  have HK := Lib.hid hk
  obtain ⟨w1, hw1⟩ : ∃ w1, w.alloc (.cells #[.slice h.pa s.prog.length h.pc, .slice h.ga s.gs.length h.gc, .slice h.qa s.ps.length h.qc, .slice h.ma s.ms.length h.mc, .slice h.la s.glob.length h.lc, .int .i64 s.c0, .int .i64 s.c1, .int .i64 s.c2, .int .i64 s.c3, .slice h.a0 s.w0.length h.k0, .slice h.a1 s.w1.length h.k1, .slice h.a2 s.w2.length h.k2, .slice h.a3 s.w3.length h.k3, .slice h.ta s.timers.length h.tc, .int .i64 s.clock, .int .i64 s.procs] 47) = w1 := ⟨_, rfl⟩
  have HX1 : Hid (Ext w w1) := Lib.hid (by rw [← hw1]; exact (Ext.refl w).alloc _)
  have HB1 : Hid (w1.heap[w.heap.size]? = some (.cells (stC h s) 47 (0, 0))) := Lib.hid (by rw [← hw1]; exact blk_new w _)
  have HK1 := Lib.hid (hk.ext HX1.out)
  have HW1 := Lib.hid hw1
  clear hw1 hk
  clear hf
  obtain ⟨b, o, hA, hb, p0, p1, p2, p3, p4⟩ := gs_get HK1.out.gs hg
  obtain ⟨fn, pc, st, m, sq⟩ := g
  simp only at p0 p1 p2 p3 p4
  have HR := Lib.hid hr
  obtain ⟨w3, hw3⟩ : ∃ w3, w1.alloc (.cells #[.int .i64 fn, .int .i64 pc, .int .i64 st, .int .i64 m, .int .i64 sq] 72) = w3 := ⟨_, rfl⟩
  have HW3 := Lib.hid hw3
  have HX3 : Hid (Ext w1 w3) := Lib.hid (by rw [← hw3]; exact (Ext.refl w1).alloc _)
  have HQ3 : Hid (w3.heap[w1.heap.size]? = some (.cells #[.int .i64 fn, .int .i64 pc, .int .i64 st, .int .i64 m, .int .i64 sq] 72 (0, 0))) := Lib.hid (by rw [← hw3]; exact blk_new w1 _)
  have q1 := st1 HB1.out
  have e1 : (k : Int) + 1 - 1 = (k : Int) := by omega
  have HA := Lib.hid hA
  clear hg hb hw3 hA hr
  unfold stV
  go_enter Try.func92, Try.ntmps92
  go_upto_region 1 with fail
  rw [HW1.out]
  generalize Value.agg #[.slice h.pa s.prog.length h.pc, .slice h.ga s.gs.length h.gc, .slice h.qa s.ps.length h.qc, .slice h.ma s.ms.length h.mc, .slice h.la s.glob.length h.lc, .int .i64 s.c0, .int .i64 s.c1, .int .i64 s.c2, .int .i64 s.c3, .slice h.a0 s.w0.length h.k0, .slice h.a1 s.w1.length h.k1, .slice h.a2 s.w2.length h.k2, .slice h.a3 s.w3.length h.k3, .slice h.ta s.timers.length h.tc, .int .i64 s.clock, .int .i64 s.procs] = sv0
  have hA := HA.out
  go_upto_region 2 with fail
  rw [HW3.out]
  clear q1 hA p0 p1 p2 p3 p4
  have z0 := blk_cell HQ3.out 2 _ rfl
  have z3 := blk_cell HQ3.out 3 _ rfl
  have q3 := st3 (HX3.out.blk HB1.out)
  by_cases hs : st ≠ 2 ∧ st ≠ 4
  · have e2 : (st != 2) = true := by simpa using hs.1
    have e4 : (st != 4) = true := by simpa using hs.2
    have HR2 : Hid ((m == 0) = r) := Lib.hid (by have := HR.out; unfold St.holdG at this; rwa [if_pos hs] at this)
    clear hs
    have hm := HR2.out
    go_wp2
    go_ret
    exact ⟨rfl, HX1.out.trans HX3.out⟩
  · have HR2 : Hid ((wiB m 1 s.ms.length && ((s.ms.getD (m - 1).toNat (0, 0)).2 == (k : Int) + 1 && (((s.ms.getD (m - 1).toNat (0, 0)).1 != 0) == (st == 2)))) = r) := Lib.hid (by have := HR.out; unfold St.holdG at this; rwa [if_neg hs] at this)
    have h24 : st = 2 ∨ st = 4 := by omega
    have H24 : Hid ((st != 2 && st != 4) = false) := Lib.hid (by rcases h24 with h | h <;> subst h <;> rfl)
    obtain ⟨b2, hb2⟩ : ∃ b2, (st != 2) = b2 := ⟨_, rfl⟩
    obtain ⟨b4, hb4⟩ : ∃ b4, (st != 4) = b4 := ⟨_, rfl⟩
    have hand : (b2 && b4) = false := by rw [← hb2, ← hb4]; exact H24.out
    obtain ⟨bs, hbs⟩ : ∃ bs, (st == 2) = bs := ⟨_, rfl⟩
    rw [hbs] at HR2
    clear hs h24
    have HWI := Lib.hid (swithin_any m 1 (s.ms.length : Int))
    cases bb : wiB m 1 (s.ms.length : Int) with
    | false =>
      obtain rfl : r = false := by have := HR2.out; rw [bb] at this; exact this.symm
      cases b2 <;> cases b4 <;> first | (exfalso; simp at hand; done) | skip
      all_goals
        clear hand hbs
        go_wp2_with fail
        refine (HWI.out _).mono ?_
        rintro e w' ⟨rfl, rfl⟩
        go_wp2
        go_ret
        exact ⟨rfl, HX1.out.trans HX3.out⟩
    | true =>
      obtain ⟨fb1, fb2⟩ := wiB_iff.1 bb
      obtain ⟨j, hj⟩ : ∃ j : Nat, m = (j : Int) + 1 := ⟨(m - 1).toNat, by omega⟩
      subst hj
      obtain ⟨x, hx⟩ : ∃ x, s.ms[j]? = some x := ⟨_, List.getElem?_eq_getElem (by omega)⟩
      obtain ⟨bm, om, hAm, hbm, c0, c1⟩ := frs2_get (HK1.out.ext HX3.out).ms hx
      have HR3 : Hid ((x.2 == (k : Int) + 1 && ((x.1 != 0) == bs)) = r) := Lib.hid (by
        have := HR2.out
        rw [bb, Bool.true_and, show ((j : Int) + 1 - 1).toNat = j by omega, List.getD, hx] at this
        exact this)
      have e6 : (j : Int) + 1 - 1 = (j : Int) := by omega
      have e7 : (j : Int) < (s.ms.length : Int) := by omega
      obtain ⟨xp, xg⟩ := x
      simp only at HR3 c0 c1
      obtain ⟨w5, hw5⟩ : ∃ w5, w3.alloc (.cells #[.int .i64 xp, .int .i64 xg] 119) = w5 := ⟨_, rfl⟩
      have HW5 := Lib.hid hw5
      have HX5 : Hid (Ext w1 w5) := Lib.hid (by rw [← hw5]; exact HX3.out.alloc _)
      have hq5 : w5.heap[w3.heap.size]? = some (.cells #[.int .i64 xp, .int .i64 xg] 119 (0, 0)) := by rw [← hw5]; exact blk_new w3 _
      have u0 := blk_cell hq5 0 _ rfl
      have u1 := blk_cell hq5 1 _ rfl
      have u2 : w5.cell? ⟨w1.heap.size, 2, none⟩ = some (.int .i64 st) := by rw [← hw5]; exact blk_cell (blk_alloc HQ3.out _) 2 _ rfl
      clear hw5 hq5
      obtain ⟨bp, hbp⟩ : ∃ bp, (xp != 0) = bp := ⟨_, rfl⟩
      obtain ⟨bg, hbg⟩ : ∃ bg, (xg == (k : Int) + 1) = bg := ⟨_, rfl⟩
      obtain ⟨be, hbe⟩ : ∃ be, (bp == bs) = be := ⟨_, rfl⟩
      rw [hbg, hbp, hbe] at HR3
      clear hx hbm
      cases b2 <;> cases b4 <;> first | (exfalso; simp at hand; done) | skip
      all_goals
        clear hand
        cases bg with
        | false =>
          obtain rfl : r = false := HR3.out.symm
          go_wp2_with fail
          refine (HWI.out _).mono ?_
          rintro e w' ⟨rfl, rfl⟩
          go_wp2_with (rw [HW5.out])
          go_ret
          exact ⟨rfl, HX1.out.trans HX5.out⟩
        | true =>
          have hrr : r = (bp == bs) := by have := HR3.out; rw [← hbe] at this; simpa using this.symm
          clear HR3 hbe
          cases bp <;> cases bs
          all_goals
            subst hrr
            go_wp2_with fail
            refine (HWI.out _).mono ?_
            rintro e w' ⟨rfl, rfl⟩
            go_wp2_with (rw [HW5.out])
            go_ret
            exact ⟨rfl, HX1.out.trans HX5.out⟩
end Go.Proofs.Ytdcbaddndoilfaa
