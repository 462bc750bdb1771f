/-
  Several texts in one: Jd, Hzn, Ja, Hzi, Je, Jg, Jf, Jh, Ji.
-/
import Derived.Test.YtohncgikdlbogaaDoorE12
import Derived.Test.YtohncgikdlbogaaDoorE08
import Derived.Test.YtohncgikdlbogaaDoorE04
import Derived.Test.YtohncgikdlbogaaDoorE02
import Derived.Test.YtohncgikdlbogaaDoorE03
import Derived.Test.YtohncgikdlbogaaDoorE10
import Derived.Test.YtohncgikdlbogaaDoorE05
set_option linter.unusedVariables false
set_option linter.unusedSimpArgs false
namespace Go.Proofs.YtohncgikdlbogaaDoor
open Go.RowKit
def SnO (B : Nat) (w : World) (v : Value) (s : Sn) : Prop := ∃ A c D d, v = .agg #[.int .i64 s.time, .slice A s.ps.length c, .slice D s.gs.length d] ∧ OwnRows 61 2 snPCells w B (.slice A s.ps.length c) s.ps ∧ OwnRows 49 4 snGCells w B (.slice D s.gs.length d) s.gs
def SnAppO (w : World) (o : Option Sn) (e : Ending) (w' : World) : Prop := ∃ u, e = .returned (.tuple #[u, .bool o.isSome]) ∧ SnO w.heap.size w' u (o.getD Md.zero) ∧ Ext w w'
theorem snZ_own (B : Nat) (w : World) : SnO B w (.agg #[.int .i64 0, .slice none 0 0, .slice none 0 0]) Md.zero := ⟨none, 0, none, 0, rfl, OwnRows.nil w B, OwnRows.nil w B⟩
theorem app_noO {a : Act} {w w' : World} {S R : Nat} {x y z b : Value} (hd : a.defers = [{ target := Target.fn (Fn.func 44) #[.pointer (some ⟨S, 0, none⟩), .pointer (some ⟨R, 0, none⟩)], args := #[] }]) (h4 : a.tmps.getD 4 undef = .pointer (some ⟨S, 0, none⟩)) (h5 : a.tmps.getD 5 undef = .pointer (some ⟨R, 0, none⟩))
    (hx : Ext w w') (hS : w'.heap[S]? = some (.cells #[x, y, z] 25 (0, 0))) (hR : w'.heap[R]? = some (.cells #[b] 4 (0, 0))) (h1 : w.heap.size ≤ S) (h2 : w.heap.size ≤ R) (hne : S ≠ R) : bodyPostD Tryd.prog Tryd.f32 (fun e w' => SnAppO w none e w') (Exit.panic impC) a w' := by
 obtain ⟨tm, df⟩ := a
 simp only at hd h4 h5
 subst hd
 refine leaves_cons (f := 44) (args := #[.pointer (some ⟨S, 0, none⟩), .pointer (some ⟨R, 0, none⟩)]) (by simp) (by simp [go_sem]) ?_
 refine (apply1_caught _ _ _ _ _ _ _ _ hS (blk_cell hR 0 _ rfl) (frozen_of_row _ _ 0 _ _ hR) hne).mono ?_
 rintro e u' w4 ⟨rfl, rfl, w3, hx3, rfl⟩
 obtain ⟨w5, hw5, hs5, hr5, hx5⟩ := app_back (hx.trans hx3) (hx3.blk hS) (hx3.blk hR) h1 h2 hne (.bool false)
 rw [hw5]
 have hsr := run_loadVar_row (P := Tryd.prog) w5 _ 25 25 _ _ _ hs5 Tryd.underlying25 rfl (by kernel_rfl)
 have hbr := blk_cell hr5 0 _ rfl
 have HX5 := Lib.hid hx5
 clear hw5 hx3 hx5
 rw [Array.getD_eq_getD_getElem?] at h4 h5
 simp [Leaves, settle, results, Tryd.results32, h4, h5]
 simp only [asAddr, Sem.run_pure, Result.andThen_ok, hsr]
 simp [hbr, go_sem]
 exact ⟨_, rfl, snZ_own _ _, HX5.out⟩
theorem app_yesO {a : Act} {w w' : World} {S R : Nat} {time : Int} {A B : Option Addr} {c d : Nat} {y : Sn} (hd : a.defers = [{ target := Target.fn (Fn.func 44) #[.pointer (some ⟨S, 0, none⟩), .pointer (some ⟨R, 0, none⟩)], args := #[] }]) (h4 : a.tmps.getD 4 undef = .pointer (some ⟨S, 0, none⟩)) (h5 : a.tmps.getD 5 undef = .pointer (some ⟨R, 0, none⟩))
    (hx : Ext w w') (hS : w'.heap[S]? = some (.cells #[.int .i64 time, .slice A y.ps.length c, .slice B y.gs.length d] 25 (0, 0))) (hR : w'.heap[R]? = some (.cells #[.bool true] 4 (0, 0))) (hs : SnO w.heap.size w' (.agg #[.int .i64 time, .slice A y.ps.length c, .slice B y.gs.length d]) y) : bodyPostD Tryd.prog Tryd.f32 (fun e w' => SnAppO w (some y) e w') Exit.ret a w' := by
 obtain ⟨tm, df⟩ := a
 simp only at hd h4 h5
 subst hd
 refine leaves_cons (f := 44) (args := #[.pointer (some ⟨S, 0, none⟩), .pointer (some ⟨R, 0, none⟩)]) (by simp) (by simp [go_sem]) ?_
 refine (apply1_idle _ _ _).mono ?_
 rintro e u' w4 ⟨rfl, rfl, hw4⟩
 have hw5 := hw4.symm
 clear hw4
 subst hw5
 have hsr := run_loadVar_row (P := Tryd.prog) w' _ 25 25 _ _ _ hS Tryd.underlying25 rfl (by kernel_rfl)
 have hbr := blk_cell hR 0 _ rfl
 have HX5 := Lib.hid hx
 have HSN := Lib.hid hs
 clear hx hs hS hR
 rw [Array.getD_eq_getD_getElem?] at h4 h5
 simp [Leaves, settle, results, Tryd.results32, h4, h5]
 simp only [asAddr, Sem.run_pure, Result.andThen_ok, hsr]
 simp [hbr, go_sem]
 exact ⟨_, rfl, HSN.out, HX5.out⟩
theorem app_storeO {w w2 : World} {S R B : Nat} {A D : Option Addr} {c d : Nat} {y : Sn} {b0 : Value} (hx : Ext w w2) (hS : w2.heap[S]? = some (.cells #[.int .i64 0, .slice none 0 0, .slice none 0 0] 25 (0, 0))) (hR : w2.heap[R]? = some (.cells #[b0] 4 (0, 0))) (h1 : w.heap.size ≤ S) (h2 : w.heap.size ≤ R) (hne : S ≠ R) (hSB : S < B) (hRB : R < B)
    (hp : OwnRows 61 2 snPCells w2 B (.slice A y.ps.length c) y.ps) (hg : OwnRows 49 4 snGCells w2 B (.slice D y.gs.length d) y.gs) :
    w2.there S 0 [Value.int .i64 y.time, .slice A y.ps.length c, .slice D y.gs.length d].length ∧ ∃ w6, w2.setCells S 0 [.int .i64 y.time, .slice A y.ps.length c, .slice D y.gs.length d] = w6 ∧ w6.cell? ⟨R, 0, none⟩ = some b0 ∧ w6.frozen? ⟨R, 0, none⟩ = false ∧ ∃ w7, w6.setCell ⟨R, 0, none⟩ (.bool true) = w7 ∧ Ext w w7 ∧ w7.heap[S]? = some (.cells #[.int .i64 y.time, .slice A y.ps.length c, .slice D y.gs.length d] 25 (0, 0)) ∧ w7.heap[R]? = some (.cells #[.bool true] 4 (0, 0)) ∧ (OwnRows 61 2 snPCells w7 B (.slice A y.ps.length c) y.ps ∧ OwnRows 49 4 snGCells w7 B (.slice D y.gs.length d) y.gs) := by
 have hu1 := setCells_upd S [Value.int .i64 y.time, .slice A y.ps.length c, .slice D y.gs.length d] w2 0
 obtain ⟨hth, w6, hw6, hb6, u, hu, -, hx6⟩ := sn_lay hx h1 hS ⟨A, c, D, d, rfl, hp.rows snPCells_len, hg.rows snGCells_len⟩
 have hR6 : w6.heap[R]? = some (.cells #[b0] 4 (0, 0)) := by rw [← hw6]; exact (hu1.block R (blk_lt hR) (fun e => hne (by injection e with e; exact e.symm))).trans hR
 have hu2 : Upd R w6 (w6.setCell ⟨R, 0, none⟩ (.bool true)) := setCells_upd R [.bool true] _ 0
 rw [hw6] at hu1
 refine ⟨hth, w6, hw6, blk_cell hR6 0 _ rfl, frozen_of_row _ _ 0 _ _ hR6, _, rfl, Ext.upd hx6 hu2 h2, ?_, by simpa using blk_set hR6 0 (.bool true), (hp.upd hu1 hSB).upd hu2 hRB, (hg.upd hu1 hSB).upd hu2 hRB⟩
 rw [hu2.block S (blk_lt hb6) (fun e => hne (by injection e))]; exact hb6
set_option maxRecDepth 100000 in
set_option maxHeartbeats 8000000 in
theorem mApply_noO (v : Value) (x : Sn) (l : Lg) (wy st : Value) (w : World) (hs : SnAt w v x) (hp : x.ps.length ≤ 1000) (hg : x.gs.length ≤ 1000) (hno : ¬ (0 < l.m ∧ x.time ≤ l.time ∧ x.may = true)) :
    Calls Tryd.prog 32 #[v, lgV l wy st] w fun e w' => SnAppO w none e w' := by
 obtain ⟨A, c, B, d, rfl, h2, h3⟩ := hs
 obtain ⟨time, ps, gs⟩ := x
 obtain ⟨lt, lm, kd, lg, lp, ls⟩ := l
 simp only at h2 h3 hno hp hg ⊢
 have hmf : ∀ (fn : Fn) (first cap : Array Value) (w : World), (Instr.makeFunc fn first cap).run Tryd.prog w = .ok (.func fn first cap) w := fun _ _ _ _ => rfl
 have HNO := Lib.hid hno
 have HP : Hid (ps.length ≤ 10000) := Lib.hid (by omega)
 have HG : Hid (gs.length ≤ 10000) := Lib.hid (by omega)
 clear hno hp hg
 unfold lgV
 go_enter_defers Tryd.func32, Tryd.ntmps32
 go_upto_region 2 with fail
 obtain ⟨w1, hw1, hx1, hb1, hl1, hz1, ht1⟩ := app_four w #[.int .i64 time, .slice A ps.length c, .slice B gs.length d] 25 #[.int .i64 lt, .int .i64 lm, .int .i64 kd, .int .i64 lg, .int .i64 lp, .int .i64 ls, wy, st] 34 #[.int .i64 0, .slice none 0 0, .slice none 0 0] 25 #[.bool false] 4
 rw [hw1]
 have m0 := blk_cell hl1 0 _ rfl
 have m1 := blk_cell hl1 1 _ rfl
 have c0 := blk_cell hb1 0 _ rfl
 have c1 := blk_cell hb1 1 _ rfl
 have c2 := blk_cell hb1 2 _ rfl
 clear hw1
 have HX1 := Lib.hid hx1
 have HB1 := Lib.hid hb1
 have HZ1 := Lib.hid hz1
 have HT1 := Lib.hid ht1
 have H2 := Lib.hid (h2.ext hx1)
 have H3 := Lib.hid (h3.ext hx1)
 clear hx1 hb1 hz1 ht1 hl1 h2 h3
 by_cases k1 : 0 < lm
 rotate_left 1
 · have e1 : decide (0 < lm) = false := decide_eq_false k1
   clear k1
   go_wp2_with fail
   refine (need_no _).mono ?_
   rintro e' w' ⟨rfl, rfl⟩
   go_wp2
   exact app_noO rfl (by simp) (by simp) HX1.out HZ1.out HT1.out (by omega) (by omega) (by omega)
 have e1 : decide (0 < lm) = true := decide_eq_true k1
 have K1 := Lib.hid k1
 clear k1
 by_cases k2 : time ≤ lt
 rotate_left 1
 · have e2 : decide (time ≤ lt) = false := decide_eq_false k2
   clear k2
   go_wp2_with fail
   refine (need_no _).mono ?_
   rintro e' w' ⟨rfl, rfl⟩
   go_wp2
   exact app_noO rfl (by simp) (by simp) HX1.out HZ1.out HT1.out (by omega) (by omega) (by omega)
 have e2 : decide (time ≤ lt) = true := decide_eq_true k2
 have K2 := Lib.hid k2
 clear k2
 have HF : Hid (Sn.may ⟨time, ps, gs⟩ = false) := Lib.hid (by
  cases hm : Sn.may ⟨time, ps, gs⟩ with
  | false => rfl
  | true => exact absurd ⟨K1.out, K2.out, hm⟩ HNO.out)
 go_wp2_with fail
 refine (snmay_any _ ⟨time, ps, gs⟩ w1 ⟨A, c, B, d, rfl, H2.out, H3.out⟩ HP.out HG.out).mono ?_
 rintro e' w2 ⟨rfl, hx2⟩
 rw [HF.out]
 have HX2 := Lib.hid hx2
 clear hx2 c0 c1 c2 m0 m1
 go_wp2_with fail
 refine (need_no _).mono ?_
 rintro e' w' ⟨rfl, rfl⟩
 go_wp2
 exact app_noO rfl (by simp) (by simp) (HX1.out.trans HX2.out) (HX2.out.blk HZ1.out) (HX2.out.blk HT1.out) (by omega) (by omega) (by omega)
set_option maxRecDepth 100000 in
set_option maxHeartbeats 16000000 in
theorem mApply_yesO (v : Value) (x : Sn) (l : Lg) (wy st : Value) (w : World) (hs : SnAt w v x) (hp : x.ps.length ≤ 1000) (hg : x.gs.length ≤ 1000) (hyes : 0 < l.m ∧ x.time ≤ l.time ∧ x.may = true) :
    Calls Tryd.prog 32 #[v, lgV l wy st] w (SnAppO w (Md.app x l)) := by
 have hmi := (Sn.may_iff x).1 hyes.2.2
 have hri := (Md.rises_may hyes.2.2).1
 obtain ⟨A, c, B, d, rfl, h2, h3⟩ := hs
 obtain ⟨time, ps, gs⟩ := x
 obtain ⟨lt, lm, kd, lg, lp, ls⟩ := l
 simp only at h2 h3 hyes hp hg hmi hri ⊢
 have HSQ : Hid ((∀ q ∈ ps, 0 ≤ q.2 ∧ q.2 < 4611686018427387904) ∧ ∀ q ∈ gs, 0 ≤ q.2.2.2 ∧ q.2.2.2 < 4611686018427387904) := Lib.hid (by
  obtain ⟨_, _, _, k1, _, k2, _⟩ := hmi
  refine ⟨fun q hq => ?_, fun q hq => ?_⟩
  · have := k1 q hq
    unfold snPOk at this
    simp only [Bool.and_eq_true, snNum_iff] at this
    exact this.2
  · have := k2 q hq
    unfold snGOk at this
    simp only [Bool.and_eq_true, snNum_iff] at this
    exact this.2)
 have HRI := Lib.hid hri
 clear hmi hri
 have hmf : ∀ (fn : Fn) (first cap : Array Value) (w : World), (Instr.makeFunc fn first cap).run Tryd.prog w = .ok (.func fn first cap) w := fun _ _ _ _ => rfl
 have HP : Hid (ps.length ≤ 1000) := Lib.hid hp
 have HG : Hid (gs.length ≤ 1000) := Lib.hid hg
 have K1 := Lib.hid hyes.1
 have K2 := Lib.hid hyes.2.1
 have K3 := Lib.hid hyes.2.2
 have e1 : decide (0 < lm) = true := decide_eq_true hyes.1
 have e2 : decide (time ≤ lt) = true := decide_eq_true hyes.2.1
 clear hyes hp hg
 unfold lgV
 go_enter_defers Tryd.func32, Tryd.ntmps32
 go_upto_region 2 with fail
 obtain ⟨w1, hw1, hx1, hb1, hl1, hz1, ht1⟩ := app_four w #[.int .i64 time, .slice A ps.length c, .slice B gs.length d] 25 #[.int .i64 lt, .int .i64 lm, .int .i64 kd, .int .i64 lg, .int .i64 lp, .int .i64 ls, wy, st] 34 #[.int .i64 0, .slice none 0 0, .slice none 0 0] 25 #[.bool false] 4
 rw [hw1]
 have m0 := blk_cell hl1 0 _ rfl
 have m1 := blk_cell hl1 1 _ rfl
 have c0 := blk_cell hb1 0 _ rfl
 have c1 := blk_cell hb1 1 _ rfl
 have c2 := blk_cell hb1 2 _ rfl
 clear hw1
 have HX1 := Lib.hid hx1
 have HB1 := Lib.hid hb1
 have HL1 := Lib.hid hl1
 have HZ1 := Lib.hid hz1
 have HT1 := Lib.hid ht1
 have H2 := Lib.hid (h2.ext hx1)
 have H3 := Lib.hid (h3.ext hx1)
 clear hx1 hb1 hz1 ht1 hl1 h2 h3
 go_wp2_with fail
 refine (snmay_any _ ⟨time, ps, gs⟩ w1 ⟨A, c, B, d, rfl, H2.out, H3.out⟩ (by have := HP.out; simp only; omega) (by have := HG.out; simp only; omega)).mono ?_
 rintro e' w2 ⟨rfl, hx2⟩
 rw [K3.out]
 have HX2 := Lib.hid hx2
 clear hx2 c0 c1 c2 m0 m1
 go_wp2_with fail
 refine (need_yes _).mono ?_
 rintro e' w' ⟨rfl, hw'⟩
 have hw2 := hw'.symm
 clear hw'
 subst hw2
 have c0 := blk_cell (HX2.out.blk HB1.out) 0 _ rfl
 have c1 := blk_cell (HX2.out.blk HB1.out) 1 _ rfl
 have c2 := blk_cell (HX2.out.blk HB1.out) 2 _ rfl
 have m1 := blk_cell (HX2.out.blk HL1.out) 1 _ rfl
 go_wp2_with fail
 refine (mhas_any _ ⟨time, ps, gs⟩ lm w2 ⟨A, c, B, d, rfl, H2.out.ext HX2.out, H3.out.ext HX2.out⟩ (by have := HP.out; simp only; omega) (by have := HG.out; simp only; omega) _ _ rfl rfl).mono ?_
 rintro e' w3 ⟨rfl, hx3⟩
 have HX3 := Lib.hid (HX2.out.trans hx3)
 clear hx3 c0 c1 c2 m1 HX2
 go_wp2_with fail
 refine region_rgx ([(4, (fun u => ∃ A c, u = .slice A ps.length c : Value → Prop), (fun u w => TrO 61 2 snPCells w3.heap.size w (u 4) ps : (Nat → GV) → World → Prop)), (7, (fun u => ∃ A c, u = .slice A gs.length c : Value → Prop), (fun u w => TrO 49 4 snGCells w3.heap.size w (u 7) gs : (Nat → GV) → World → Prop)), (13, (fun u => ∃ g, u = .pointer (some ⟨g, 0, none⟩) : Value → Prop), (fun u w => HasW 95 w3 w (u 13) [.int .i64 lt, (u 4).v, (u 7).v, .int .i64 lt, .int .i64 lm, .int .i64 kd, .int .i64 lg, .int .i64 lp, .int .i64 ls, wy, st, .int .i64 (Md.hasP ps lm 1), .int .i64 (Md.hasG gs lm)] : (Nat → GV) → World → Prop))]) (w3) (by kernel_rfl) (by kernel_rfl) ?_ ?_ ?_
 · exact List.forall_mem_cons.2 ⟨⟨⟨_, none, 0, rfl⟩, fun u v w h ht => by show (fun u w => TrO 61 2 snPCells w3.heap.size w (u 4) ps : (Nat → GV) → World → Prop) v w; dsimp only; rw [← h 4 (.inl rfl) (by kernel_rfl)]; exact ht, fun u w w2 hx ht => ht.ext hx⟩, List.forall_mem_cons.2 ⟨⟨⟨_, none, 0, rfl⟩, fun u v w h ht => by show (fun u w => TrO 49 4 snGCells w3.heap.size w (u 7) gs : (Nat → GV) → World → Prop) v w; dsimp only; rw [← h 7 (.inl rfl) (by kernel_rfl)]; exact ht, fun u w w2 hx ht => ht.ext hx⟩, List.forall_mem_cons.2 ⟨⟨⟨_, 0, rfl⟩, fun u v w h ht => by show (fun u w => HasW 95 w3 w (u 13) [.int .i64 lt, (u 4).v, (u 7).v, .int .i64 lt, .int .i64 lm, .int .i64 kd, .int .i64 lg, .int .i64 lp, .int .i64 ls, wy, st, .int .i64 (Md.hasP ps lm 1), .int .i64 (Md.hasG gs lm)] : (Nat → GV) → World → Prop) v w; dsimp only; rw [← h 13 (.inl rfl) (by kernel_rfl), ← h 4 (.inr (by kernel_rfl)) (by kernel_rfl), ← h 7 (.inr (by kernel_rfl)) (by kernel_rfl)]; exact ht, fun u w w2 hx ht => ht.ext hx⟩, List.forall_mem_nil _⟩⟩⟩
 · first | assumption | exact Ext.refl _
 refine rg_pure (v := ?_) rfl (by kernel_rfl) (by kernel_rfl) (fun w hS hN => ?_) ?_
 rotate_left 1
 · clear hN
   go_simp
   refine givesP_mk ?_
   with_reducible rfl
 refine rg_pure (v := ?_) rfl (by kernel_rfl) (by kernel_rfl) (fun w hS hN => ?_) ?_
 rotate_left 1
 · have q0 := blk_cell (hS.blk (HX3.out.blk HL1.out)) 0 _ rfl
   clear hN
   go_simp
   refine givesP_mk ?_
   with_reducible rfl
 refine rg_pure (v := ?_) rfl (by kernel_rfl) (by kernel_rfl) (fun w hS hN => ?_) ?_
 rotate_left 1
 · clear hN
   go_simp
   refine givesP_mk ?_
   with_reducible rfl
 refine rg_pure (v := ?_) rfl (by kernel_rfl) (by kernel_rfl) (fun w hS hN => ?_) ?_
 rotate_left 1
 · have q1 := blk_cell (hS.blk (HX3.out.blk HB1.out)) 1 _ rfl
   clear hN
   go_simp
   refine givesP_mk ?_
   with_reducible rfl
 refine rg_mem (fun u => ∃ A c, u = .slice A ps.length c : Value → Prop) (fun u w => TrO 61 2 snPCells w3.heap.size w (u 4) ps : (Nat → GV) → World → Prop) (fun _ => Ext) rfl rfl rfl rfl (by kernel_rfl) (by kernel_rfl) (fun w hS hN R hR => ?_) ?_
 · have HR := Lib.hid hR
   clear hR
   (try clear hN)
   go_simp
   refine givesM_call ((clonePS_any _ ps w ((H2.out.ext HX3.out).ext hS) (by have := HP.out; omega)).mono ?_)
   rintro e w' ⟨v, rfl, ho, hx⟩
   obtain ⟨A', c', rfl, _⟩ := (ho.rows snPCells_len).form
   exact ⟨_, rfl, HR.out _ _ ⟨_, _, rfl⟩ (TrO.of ho hS.size) hx⟩
 rintro u4 s4 t4 ⟨A4, c4, rfl⟩
 refine rg_pure (v := ?_) rfl (by kernel_rfl) (by kernel_rfl) (fun w hS hN => ?_) ?_
 rotate_left 1
 · clear hN
   go_simp
   refine givesP_mk ?_
   with_reducible rfl
 refine rg_pure (v := ?_) rfl (by kernel_rfl) (by kernel_rfl) (fun w hS hN => ?_) ?_
 rotate_left 1
 · have q2 := blk_cell (hS.blk (HX3.out.blk HB1.out)) 2 _ rfl
   clear hN
   go_simp
   refine givesP_mk ?_
   with_reducible rfl
 refine rg_mem (fun u => ∃ A c, u = .slice A gs.length c : Value → Prop) (fun u w => TrO 49 4 snGCells w3.heap.size w (u 7) gs : (Nat → GV) → World → Prop) (fun _ => Ext) rfl rfl rfl rfl (by kernel_rfl) (by kernel_rfl) (fun w hS hN R hR => ?_) ?_
 · have HR := Lib.hid hR
   clear hR
   (try clear hN)
   go_simp
   refine givesM_call ((cloneGS_any _ gs w ((H3.out.ext HX3.out).ext hS) (by have := HG.out; omega)).mono ?_)
   rintro e w' ⟨v, rfl, ho, hx⟩
   obtain ⟨A', c', rfl, _⟩ := (ho.rows snGCells_len).form
   exact ⟨_, rfl, HR.out _ _ ⟨_, _, rfl⟩ (TrO.of ho hS.size) hx⟩
 rintro u7 s7 t7 ⟨A7, c7, rfl⟩
 refine rg_pure (v := ?_) rfl (by kernel_rfl) (by kernel_rfl) (fun w hS hN => ?_) ?_
 rotate_left 1
 · clear hN
   go_simp
   refine givesP_mk ?_
   with_reducible rfl
 refine rg_pure (v := (.agg #[.int .i64 lt, .int .i64 lm, .int .i64 kd, .int .i64 lg, .int .i64 lp, .int .i64 ls, wy, st])) rfl (by kernel_rfl) (by kernel_rfl) (fun w hS hN => ?_) ?_
 · clear hN
   exact givesP_load 34 _ rfl _ (by go_simp) ([.int .i64 lt, .int .i64 lm, .int .i64 kd, .int .i64 lg, .int .i64 lp, .int .i64 ls, wy, st]) _ rfl _ (range_row (hS.blk (HX3.out.blk HL1.out))) Tryd.underlying34 rfl (by kernel_rfl)
 iterate 3
  refine rg_pure (v := ?_) rfl (by kernel_rfl) (by kernel_rfl) (fun w hS hN => ?_) ?_
  rotate_left 1
  · clear hN
    go_simp
    refine givesP_mk ?_
    with_reducible rfl
 refine rg_mem (fun u => ∃ g, u = .pointer (some ⟨g, 0, none⟩) : Value → Prop) (fun u w => HasW 95 w3 w (u 13) [.int .i64 lt, (u 4).v, (u 7).v, .int .i64 lt, .int .i64 lm, .int .i64 kd, .int .i64 lg, .int .i64 lp, .int .i64 ls, wy, st, .int .i64 (Md.hasP ps lm 1), .int .i64 (Md.hasG gs lm)] : (Nat → GV) → World → Prop) (fun _ => Ext) rfl rfl rfl rfl (by kernel_rfl) (by kernel_rfl) (fun w hS hN R hR => ?_) ?_
 · have HR := Lib.hid hR
   clear hR
   (try clear hN)
   go_simp
   exact givesM_val (HR.out _ _ ⟨_, rfl⟩ ⟨w.heap.size, rfl, hS.size, ⟨Nat.le_refl _, by simp [lookU]⟩, blk_new w _⟩ ((Ext.refl w).alloc _))
 rintro u13 s13 t13 ⟨T, rfl⟩
 refine rg_pure (v := ?_) rfl (by kernel_rfl) (by kernel_rfl) (fun w hS hN => ?_) ?_
 rotate_left 1
 · clear hN
   go_simp
   refine givesP_mk ?_
   with_reducible rfl
 refine rg_doneA rfl (Nat.le_of_ble_eq_true (by kernel_rfl)) ?_
 intro w4 hS hT hA
 have h4 : TrO 61 2 snPCells w3.heap.size w4 ⟨.slice A4 ps.length c4, s4, t4⟩ ps := hT (4, ⟨.slice A4 ps.length c4, s4, t4⟩) (by simp)
 have h7 : TrO 49 4 snGCells w3.heap.size w4 ⟨.slice A7 gs.length c7, s7, t7⟩ gs := hT (7, ⟨.slice A7 gs.length c7, s7, t7⟩) (by simp)
 have h13 : HasW 95 w3 w4 ⟨.pointer (some ⟨T, 0, none⟩), s13, t13⟩ [.int .i64 lt, .slice A4 ps.length c4, .slice A7 gs.length c7, .int .i64 lt, .int .i64 lm, .int .i64 kd, .int .i64 lg, .int .i64 lp, .int .i64 ls, wy, st, .int .i64 (Md.hasP ps lm 1), .int .i64 (Md.hasG gs lm)] := hT (13, ⟨.pointer (some ⟨T, 0, none⟩), s13, t13⟩) (by simp)
 have a4_7 : t4 ≤ s7 ∨ t7 ≤ s4 := hA (4, ⟨.slice A4 ps.length c4, s4, t4⟩) (by simp) (7, ⟨.slice A7 gs.length c7, s7, t7⟩) (by simp) (by simp)
 have a4_13 : t4 ≤ s13 ∨ t13 ≤ s4 := hA (4, ⟨.slice A4 ps.length c4, s4, t4⟩) (by simp) (13, ⟨.pointer (some ⟨T, 0, none⟩), s13, t13⟩) (by simp) (by simp)
 have a7_13 : t7 ≤ s13 ∨ t13 ≤ s7 := hA (7, ⟨.slice A7 gs.length c7, s7, t7⟩) (by simp) (13, ⟨.pointer (some ⟨T, 0, none⟩), s13, t13⟩) (by simp) (by simp)
 have HTR : Hid (Tr w3 w4 T ⟨lt, ps, gs⟩ ⟨lt, lm, kd, lg, lp, ls⟩ wy st (Md.hasP ps lm 1) (Md.hasG gs lm) A4 c4 A7 c7) := Lib.hid (by
  obtain ⟨g, e, k1, k2, k3⟩ := h13
  simp only [Value.pointer.injEq, Option.some.injEq, Addr.mk.injEq, and_true] at e
  subst e
  dsimp only at k2
  refine ⟨k3, h4.1, h7.1, fun b hb => ?_, fun b hb => ?_, fun a b ha hb => ?_, k1, hS⟩
  · have := h4.2 b.block (by rw [hb]; rfl)
    dsimp only at this
    omega
  · have := h7.2 b.block (by rw [hb]; rfl)
    dsimp only at this
    omega
  · have h := h4.2 a.block (by rw [ha]; rfl)
    have := h7.2 b.block (by rw [hb]; rfl)
    dsimp only at this h
    omega)
 clear hS hT hA h4 h7 h13 a4_7 a4_13 a7_13
 go_simp
 go_wp2_with fail
 refine (mapply_any w3 w4 T ⟨lt, ps, gs⟩ ⟨lt, lm, kd, lg, lp, ls⟩ wy st A4 c4 A7 c7 HTR.out HRI.out ⟨HP.out, HG.out⟩ HSQ.out).mono ?_
 rintro e' w5 (⟨y, hy, rfl, A5, c5, D5, d5, hT5⟩ | ⟨ho, rfl, hx5⟩)
 rotate_left 1
 · have HX5 := Lib.hid (HX3.out.trans hx5)
   have HN : Hid (Md.app ⟨time, ps, gs⟩ ⟨lt, lm, kd, lg, lp, ls⟩ = none) := Lib.hid (by
    unfold Md.app
    rw [if_neg (by
     rintro ⟨_, _, _, k4, _⟩
     rw [Md.ask_timed lt time, if_pos k4] at ho
     cases ho)])
   clear hx5 ho
   go_wp2
   rw [HN.out]
   exact app_noO rfl (by simp) (by simp) (HX1.out.trans HX5.out) (HX5.out.blk HZ1.out) (HX5.out.blk HT1.out) (by omega) (by omega) (by omega)
 obtain ⟨HASK, HY⟩ : Hid (Md.ask ⟨time, ps, gs⟩ ⟨lt, lm, kd, lg, lp, ls⟩ = true) ∧ Hid (({ Md.thn ⟨time, ps, gs⟩ ⟨lt, lm, kd, lg, lp, ls⟩ with time := lt } : Sn) = y) := by
  by_cases k : Md.ask ⟨time, ps, gs⟩ ⟨lt, lm, kd, lg, lp, ls⟩ = true
  · rw [Md.ask_timed lt time, if_pos k] at hy
    have := Option.some.inj hy
    exact ⟨Lib.hid k, Lib.hid ((Md.thn_timed lt time ps gs _).symm.trans this)⟩
  · rw [Md.ask_timed lt time, if_neg k] at hy
    cases hy
 have HYL : Hid (y.ps.length ≤ 1001 ∧ y.gs.length ≤ 1001) := Lib.hid (by
  have h := Md.thn_len ⟨time, ps, gs⟩ ⟨lt, lm, kd, lg, lp, ls⟩
  have h1 := HP.out
  have h2 := HG.out
  rw [← HY.out]
  simp only at h ⊢
  omega)
 have HX5 := Lib.hid (HX3.out.trans hT5.ext)
 have HR5 := Lib.hid (range_pre (cs := [.int .i64 y.time, .slice A5 y.ps.length c5, .slice D5 y.gs.length d5]) (ds := [.int .i64 lt, .int .i64 lm, .int .i64 kd, .int .i64 lg, .int .i64 lp, .int .i64 ls, wy, st, .int .i64 (Md.hasP ps lm 1), .int .i64 (Md.hasG gs lm)]) hT5.box)
 have HSN : Hid (SnAt w5 (.agg #[.int .i64 y.time, .slice A5 y.ps.length c5, .slice D5 y.gs.length d5]) y) := Lib.hid ⟨A5, c5, D5, d5, rfl, hT5.ps.rows snPCells_len, hT5.gs.rows snGCells_len⟩
 have HBX := Lib.hid hT5.box
 have HOP := Lib.hid hT5.ps
 have HOG := Lib.hid hT5.gs
 clear hy hT5 HTR
 go_wp2_with (refine wpList_load_rowW rfl 25 _ rfl T rfl [.int .i64 y.time, .slice A5 y.ps.length c5, .slice D5 y.gs.length d5] (.agg #[.int .i64 y.time, .slice A5 y.ps.length c5, .slice D5 y.gs.length d5]) rfl _ HR5.out Tryd.underlying25 rfl (by kernel_rfl) ?_)
 refine (snmay_any _ y w5 HSN.out (by have := HYL.out; omega) (by have := HYL.out; omega)).mono ?_
 rintro e' w6 ⟨rfl, hx6⟩
 have HX6 := Lib.hid (HX5.out.trans hx6)
 have HOP6 := Lib.hid (HOP.out.ext hx6)
 have HOG6 := Lib.hid (HOG.out.ext hx6)
 have HB6 := Lib.hid (hx6.blk HBX.out)
 clear hx6 HR5 HSN HBX HX5 HOP HOG
 obtain ⟨my, hmy⟩ : ∃ my, y.may = my := ⟨_, rfl⟩
 have HMY := Lib.hid hmy
 rw [hmy]
 clear hmy
 cases my with
 | false =>
  have HN : Hid (Md.app ⟨time, ps, gs⟩ ⟨lt, lm, kd, lg, lp, ls⟩ = none) := Lib.hid (by
   unfold Md.app
   rw [HY.out, if_neg (by
    rintro ⟨_, _, _, _, k5⟩
    rw [HMY.out] at k5
    cases k5)])
  go_wp2_with fail
  refine (need_no _).mono ?_
  rintro e' w' ⟨rfl, rfl⟩
  go_wp2
  rw [HN.out]
  exact app_noO rfl (by simp) (by simp) (HX1.out.trans HX6.out) (HX6.out.blk HZ1.out) (HX6.out.blk HT1.out) (by omega) (by omega) (by omega)
 | true =>
  have HN : Hid (Md.app ⟨time, ps, gs⟩ ⟨lt, lm, kd, lg, lp, ls⟩ = some y) := Lib.hid (by
   unfold Md.app
   have k1 := K1.out
   rw [HY.out, if_pos ⟨by simp only; omega, K2.out, K3.out, HASK.out, HMY.out⟩])
  go_wp2_with fail
  refine (need_yes _).mono ?_
  rintro e' w' ⟨rfl, hw'⟩
  have hw2 := hw'.symm
  clear hw'
  subst hw2
  have HR6 := Lib.hid (range_pre (cs := [.int .i64 y.time, .slice A5 y.ps.length c5, .slice D5 y.gs.length d5]) (ds := [.int .i64 lt, .int .i64 lm, .int .i64 kd, .int .i64 lg, .int .i64 lp, .int .i64 ls, wy, st, .int .i64 (Md.hasP ps lm 1), .int .i64 (Md.hasG gs lm)]) HB6.out)
  obtain ⟨hth, wa, hwa, qa, fa, wb, hwb, hxb, hsb, hrb, hnb⟩ := app_storeO (HX1.out.trans HX6.out) (HX6.out.blk HZ1.out) (HX6.out.blk HT1.out) (by omega) (by omega) (by omega) (blk_lt (HX3.out.blk HZ1.out)) (blk_lt (HX3.out.blk HT1.out)) HOP6.out HOG6.out
  have HTH := Lib.hid hth
  have HWA := Lib.hid hwa
  have HWB := Lib.hid hwb
  have HXB := Lib.hid hxb
  have HSB := Lib.hid hsb
  have HRB := Lib.hid hrb
  have HNB := Lib.hid hnb
  clear hth hwa hwb hxb hsb hrb hnb
  go_wp2_with (first | (refine wpList_load_rowW rfl 25 _ rfl T rfl [.int .i64 y.time, .slice A5 y.ps.length c5, .slice D5 y.gs.length d5] (.agg #[.int .i64 y.time, .slice A5 y.ps.length c5, .slice D5 y.gs.length d5]) rfl _ HR6.out Tryd.underlying25 rfl (by kernel_rfl) ?_) | (refine wpList_store_rowN rfl 25 _ _ rfl _ 0 [.int .i64 y.time, .slice A5 y.ps.length c5, .slice D5 y.gs.length d5] (.agg ([.int .i64 y.time, .slice A5 y.ps.length c5, .slice D5 y.gs.length d5]).toArray) (by go_simp) (by go_simp) rfl HTH.out (by kernel_rfl) (sn3_one _ _ _ rfl rfl) HWA.out ?_))
  rw [HWB.out, HN.out]
  exact app_yesO rfl (by simp) (by simp) HXB.out HSB.out HRB.out ⟨_, _, _, _, rfl, World.ownsRow.mono HNB.out.1 (Nat.le_trans HX1.out.size HX3.out.size), World.ownsRow.mono HNB.out.2 (Nat.le_trans HX1.out.size HX3.out.size)⟩
theorem mApply_anyO (v : Value) (x : Sn) (l : Lg) (wy st : Value) (w : World) (hs : SnAt w v x) (hp : x.ps.length ≤ 1000) (hg : x.gs.length ≤ 1000) (o : Option Sn) (hr : Md.app x l = o) :
    Calls Tryd.prog 32 #[v, lgV l wy st] w (SnAppO w o) := by
 subst hr
 by_cases h : 0 < l.m ∧ x.time ≤ l.time ∧ x.may = true
 · exact mApply_yesO v x l wy st w hs hp hg h
 · have : Md.app x l = none := by
    unfold Md.app
    rw [if_neg (fun k => h ⟨by have := k.1; omega, k.2.1, k.2.2.1⟩)]
   rw [this]
   exact mApply_noO v x l wy st w hs hp hg h
set_option maxRecDepth 100000 in
set_option maxHeartbeats 8000000 in
theorem mApply_bigO (v : Value) (x : Sn) (l : Lg) (wy st : Value) (w : World) (hs : SnAt w v x) (hbig : 64 < x.ps.length ∨ 1000 < x.gs.length) :
    Calls Tryd.prog 32 #[v, lgV l wy st] w fun e w' => SnAppO w none e w' := by
 obtain ⟨A, c, B, d, rfl, h2, h3⟩ := hs
 obtain ⟨time, ps, gs⟩ := x
 obtain ⟨lt, lm, kd, lg, lp, ls⟩ := l
 simp only at h2 h3 hbig ⊢
 have hmf : ∀ (fn : Fn) (first cap : Array Value) (w : World), (Instr.makeFunc fn first cap).run Tryd.prog w = .ok (.func fn first cap) w := fun _ _ _ _ => rfl
 have HBIG := Lib.hid hbig
 clear hbig
 unfold lgV
 go_enter_defers Tryd.func32, Tryd.ntmps32
 go_upto_region 2 with fail
 obtain ⟨w1, hw1, hx1, hb1, hl1, hz1, ht1⟩ := app_four w #[.int .i64 time, .slice A ps.length c, .slice B gs.length d] 25 #[.int .i64 lt, .int .i64 lm, .int .i64 kd, .int .i64 lg, .int .i64 lp, .int .i64 ls, wy, st] 34 #[.int .i64 0, .slice none 0 0, .slice none 0 0] 25 #[.bool false] 4
 rw [hw1]
 have m0 := blk_cell hl1 0 _ rfl
 have m1 := blk_cell hl1 1 _ rfl
 have c0 := blk_cell hb1 0 _ rfl
 have c1 := blk_cell hb1 1 _ rfl
 have c2 := blk_cell hb1 2 _ rfl
 clear hw1
 have HX1 := Lib.hid hx1
 have HB1 := Lib.hid hb1
 have HZ1 := Lib.hid hz1
 have HT1 := Lib.hid ht1
 have H2 := Lib.hid (h2.ext hx1)
 have H3 := Lib.hid (h3.ext hx1)
 clear hx1 hb1 hz1 ht1 hl1 h2 h3
 by_cases k1 : 0 < lm
 rotate_left 1
 · have e1 : decide (0 < lm) = false := decide_eq_false k1
   clear k1
   go_wp2_with fail
   refine (need_no _).mono ?_
   rintro e' w' ⟨rfl, rfl⟩
   go_wp2
   exact app_noO rfl (by simp) (by simp) HX1.out HZ1.out HT1.out (by omega) (by omega) (by omega)
 have e1 : decide (0 < lm) = true := decide_eq_true k1
 have K1 := Lib.hid k1
 clear k1
 by_cases k2 : time ≤ lt
 rotate_left 1
 · have e2 : decide (time ≤ lt) = false := decide_eq_false k2
   clear k2
   go_wp2_with fail
   refine (need_no _).mono ?_
   rintro e' w' ⟨rfl, rfl⟩
   go_wp2
   exact app_noO rfl (by simp) (by simp) HX1.out HZ1.out HT1.out (by omega) (by omega) (by omega)
 have e2 : decide (time ≤ lt) = true := decide_eq_true k2
 have K2 := Lib.hid k2
 clear k2
 go_wp2_with fail
 refine (snmay_big _ ⟨time, ps, gs⟩ w1 ⟨A, c, B, d, rfl, H2.out, H3.out⟩ HBIG.out).mono ?_
 rintro e' w2 ⟨rfl, hx2⟩
 have HX2 := Lib.hid hx2
 clear hx2 c0 c1 c2 m0 m1
 go_wp2_with fail
 refine (need_no _).mono ?_
 rintro e' w' ⟨rfl, rfl⟩
 go_wp2
 exact app_noO rfl (by simp) (by simp) (HX1.out.trans HX2.out) (HX2.out.blk HZ1.out) (HX2.out.blk HT1.out) (by omega) (by omega) (by omega)
theorem mApply_allO (v : Value) (x : Sn) (l : Lg) (wy st : Value) (w : World) (hs : SnAt w v x) (o : Option Sn) (hr : Md.app x l = o) :
    Calls Tryd.prog 32 #[v, lgV l wy st] w (SnAppO w o) := by
 by_cases h : 64 < x.ps.length ∨ 1000 < x.gs.length
 · obtain rfl : none = o := by
    rw [← hr]
    obtain ⟨time, ps, gs⟩ := x
    have hm := sn_big (time := time) h
    unfold Md.app
    rw [if_neg (by rintro ⟨_, _, h3, _⟩; rw [hm] at h3; cases h3)]
   exact mApply_bigO v x l wy st w hs h
 · exact mApply_anyO v x l wy st w hs (by omega) (by omega) o hr
namespace Md
theorem app_some {x : Sn} {l : Lg} {y : Sn} (h : app x l = some y) : (1 ≤ l.m ∧ x.time ≤ l.time ∧ x.may = true ∧ ask x l = true ∧ ({ thn x l with time := l.time } : Sn).may = true) ∧ y = { thn x l with time := l.time } := by
 unfold app at h
 split at h
 · next hh => exact ⟨hh, (Option.some.inj h).symm⟩
 · cases h
theorem app_time {x : Sn} {l : Lg} {y : Sn} (h : app x l = some y) : 0 ≤ x.time ∧ x.time ≤ l.time ∧ l.time < 4611686018427387904 ∧ y.may = true ∧ y.time = l.time ∧ y.ps.length = x.ps.length := by
 obtain ⟨⟨a1, a2, a3, a4, a5⟩, rfl⟩ := app_some h
 have b1 := (snNum_iff _).1 ((Sn.may_iff _).1 a3).1
 have b2 := (snNum_iff _).1 ((Sn.may_iff _).1 a5).1
 refine ⟨b1.1, a2, b2.2, a5, rfl, ?_⟩
 unfold thn
 repeat' split
 all_goals first | rfl | (unfold setP; simp)
end Md
structure Sp where
 fr : Int
 till : Int
 st : Int
 n : Int
 why : ByteArray
structure Le where
 l : Lg
 why : ByteArray
 stack : Value
abbrev Vw := Int × Int × Int
def spL (s : Sp) : List Value := [.int .i64 s.fr, .int .i64 s.till, .int .i64 s.st, .int .i64 s.n, .string s.why]
def leL (e : Le) : List Value := [.int .i64 e.l.time, .int .i64 e.l.m, .int .i64 e.l.kind, .int .i64 e.l.g, .int .i64 e.l.p, .int .i64 e.l.seq, .string e.why, e.stack]
namespace Sp
def close (t : Int) (s : Sp) : Sp := { s with till := t }
def opn (t : Int) (w : ByteArray) (v : Vw) : Sp := ⟨t, 0, v.1, v.2.1, w⟩
def go (look : Sn → Option Vw) (why : Le → ByteArray) : List Le → Sn → Option Vw → List Sp → Option Sp → List Sp
 | [], x, _, done, cur => done ++ (cur.map (close x.time)).toList
 | e :: l, x, old, done, cur => match Md.app x e.l with
  | none => []
  | some y => if look y = old then go look why l y old done cur else go look why l y (look y) (done ++ (cur.map (close y.time)).toList) ((look y).map (opn y.time (why e)))
def all (look : Sn → Option Vw) (why : Le → ByteArray) (x : Sn) (l : List Le) : List Sp := if x.may = true then go look why l x (look x) [] ((look x).map (opn x.time ByteArray.empty)) else []
def lookG (g : Int) (x : Sn) : Option Vw := match Md.fnd x.gs g with
 | some k => some ((x.gs.getD k (0, 0, 0, 0)).2.1, (x.gs.getD k (0, 0, 0, 0)).2.2.1, (x.gs.getD k (0, 0, 0, 0)).2.2.2)
 | none => none
def whyG (g : Int) (e : Le) : ByteArray := if e.l.g = g ∧ (e.l.kind = 5 ∨ e.l.kind = 6) then e.why else ByteArray.empty
def lookP (p : Int) (x : Sn) : Option Vw := if 1 ≤ p ∧ p ≤ x.ps.length then (if (x.ps.getD (p - 1).toNat (0, 0)).1 = 0 then some (0, 0, 0) else some (1, (x.ps.getD (p - 1).toNat (0, 0)).1, 0)) else none
def ofG (x : Sn) (l : List Le) (g : Int) : List Sp := all (lookG g) (whyG g) x l
def ofP (x : Sn) (l : List Le) (p : Int) : List Sp := all (lookP p) (fun _ => ByteArray.empty) x l
def most : Int := 4611686018427387903
def add (st : Int) (a : Int) (s : Sp) : Int := if s.st = st ∧ 0 ≤ s.fr ∧ s.fr ≤ s.till then min (a + (s.till - s.fr)) most else a
def sum (l : List Sp) (st : Int) : Int := l.foldl (add st) 0
theorem add_range {st a : Int} {s : Sp} (h : 0 ≤ a ∧ a ≤ most) : 0 ≤ add st a s ∧ add st a s ≤ most ∧ a ≤ add st a s := by
 unfold add
 split
 · have : (0 : Int) ≤ most := by decide
   omega
 · omega
theorem sum_range (st : Int) : ∀ (l : List Sp) (a : Int), 0 ≤ a ∧ a ≤ most → 0 ≤ l.foldl (add st) a ∧ l.foldl (add st) a ≤ most ∧ a ≤ l.foldl (add st) a
 | [], a, h => by simp only [List.foldl_nil]; omega
 | s :: l, a, h => by
  rw [List.foldl_cons]
  have h1 := add_range (st := st) (s := s) h
  have h2 := sum_range st l (add st a s) ⟨h1.1, h1.2.1⟩
  omega
theorem sum_full (st : Int) (l : List Sp) : l.foldl (add st) most = most := by
 have := sum_range st l most ⟨by decide, Int.le_refl _⟩
 omega
end Sp
namespace Md
end Md
namespace OfBox
variable {w0 w w' : World} {X : Nat} {t : Int} {u1 u2 : Value} {ps : List (Int × Int)} {gs : List Gs4}
end OfBox
theorem RowsAt.grown {α : Type} {m : Nat} {f : α → List Value} {w w' : World} {A : Option Addr} {n c : Nat} {xs : List α} {row : Option Nat} (h : RowsAt m f w (.slice A n c) xs) (hg : w.grownBy w' row) (hne : 0 < n → ∀ a, A = some a → row ≠ some a.block) : RowsAt m f w' (.slice A n c) xs := by
 obtain ⟨A', c', hv, hc, hA⟩ := h
 simp only [Value.slice.injEq] at hv
 obtain ⟨rfl, rfl, rfl⟩ := hv
 refine ⟨_, _, rfl, hc, fun h0 => ?_⟩
 obtain ⟨b, o, hAe, hlt, hcell⟩ := hA h0
 refine ⟨b, o, hAe, Nat.lt_of_lt_of_le hlt hg.size, fun j x hx i u hu => ?_⟩
 rw [World.cell?_of_block (hg.block b hlt (fun e => hne h0 _ hAe e.symm))]
 exact hcell j x hx i u hu
theorem spL_len (s : Sp) : (spL s).length = 5 := rfl
theorem spL_one (s : Sp) : ∀ u ∈ spL s, u.oneCell' = true := by intro u hu; simp [spL] at hu; rcases hu with rfl | rfl | rfl | rfl | rfl <;> rfl
theorem Tryd.infoSP : (Tryd.prog.info? 36).map (fun i => (i.zero, i.size, i.bytes)) = some (some (.agg #[.int .i64 0, .int .i64 0, .int .i64 0, .int .i64 0, .string ByteArray.empty]), 5, 48) := by kernel_rfl
def SpOff (X Y : Nat) (u : Value) (n : Nat) (A : Option Addr) : Prop := 0 < n → ∀ a, A = some a → a.block ≠ X ∧ a.block ≠ Y ∧ u.ownBlock ≠ some a.block
def vwC (v : Vw) : Array Value := #[.int .i64 v.1, .int .i64 v.2.1, .int .i64 v.2.2]
structure SpB (w0 w : World) (X Y : Nat) (x : Sn) (old : Vw) (u : Value) (l : List Sp) : Prop where
 xbox : ∃ A c D d, w.heap[X]? = some (.cells #[.int .i64 x.time, .slice A x.ps.length c, .slice D x.gs.length d] 25 (0, 0)) ∧ RowsAt 2 snPCells w (.slice A x.ps.length c) x.ps ∧ RowsAt 4 snGCells w (.slice D x.gs.length d) x.gs ∧ SpOff X Y u x.ps.length A ∧ SpOff X Y u x.gs.length D
 ybox : w.heap[Y]? = some (.cells (vwC old) 46 (0, 0))
 own : OwnRows 36 5 spL w (Y + 1) u l
 ext : Ext w0 w
 lo : w0.heap.size ≤ X
 xy : X < Y
namespace SpB
variable {w0 w w' : World} {X Y : Nat} {x : Sn} {old : Vw} {u : Value} {l : List Sp}
theorem more (h : SpB w0 w X Y x old u l) (hx : Ext w w') : SpB w0 w' X Y x old u l := by
 obtain ⟨A, c, D, d, h1, h2, h3, h4, h5⟩ := h.xbox
 exact ⟨⟨A, c, D, d, hx.blk h1, h2.ext hx, h3.ext hx, h4, h5⟩, hx.blk h.ybox, h.own.ext hx, h.ext.trans hx, h.lo, h.xy⟩
theorem snap (h : SpB w0 w X Y x old u l) : ∃ A c D d, w.heap[X]? = some (.cells #[.int .i64 x.time, .slice A x.ps.length c, .slice D x.gs.length d] 25 (0, 0)) ∧ SnAt w (.agg #[.int .i64 x.time, .slice A x.ps.length c, .slice D x.gs.length d]) x := by
 obtain ⟨A, c, D, d, h1, h2, h3, _, _⟩ := h.xbox
 exact ⟨A, c, D, d, h1, A, c, D, d, rfl, h2, h3⟩
theorem setX (h : SpB w0 w X Y x old u l) {B : Nat} {y : Sn} {A : Option Addr} {c : Nat} {D : Option Addr} {d : Nat} (hs : SnO B w (.agg #[.int .i64 y.time, .slice A y.ps.length c, .slice D y.gs.length d]) y) (hY : Y < B) (hu : ∀ k, u.ownBlock = some k → k < B) :
    w.there X 0 [Value.int .i64 y.time, .slice A y.ps.length c, .slice D y.gs.length d].length ∧ ∃ w', w.setCells X 0 [.int .i64 y.time, .slice A y.ps.length c, .slice D y.gs.length d] = w' ∧ SpB w0 w' X Y y old u l := by
 obtain ⟨A0, c0, D0, d0, h1, h2, h3, h4, h5⟩ := h.xbox
 obtain ⟨A', c', D', d', hv, k2, k3⟩ := hs
 simp only [Value.agg.injEq] at hv
 have e2 : Value.slice A y.ps.length c = .slice A' y.ps.length c' := by have := congrArg (fun a : Array Value => a[1]?) hv; simpa using this
 have e3 : Value.slice D y.gs.length d = .slice D' y.gs.length d' := by have := congrArg (fun a : Array Value => a[2]?) hv; simpa using this
 simp only [Value.slice.injEq, true_and] at e2 e3
 obtain ⟨rfl, rfl⟩ := e2
 obtain ⟨rfl, rfl⟩ := e3
 have hupd := setCells_upd X [Value.int .i64 y.time, .slice A y.ps.length c, .slice D y.gs.length d] w 0
 have hxy := h.xy
 have j2 := k2.upd hupd (by omega)
 have j3 := k3.upd hupd (by omega)
 have off : ∀ {A : Option Addr} {n c : Nat}, (∀ k, (Value.slice A n c).ownBlock = some k → B ≤ k) → SpOff X Y u n A := fun hA _ a ha => by
  have hb := hA a.block (by rw [ha]; rfl)
  exact ⟨by omega, by omega, fun e => by have := hu _ e; omega⟩
 refine ⟨there_row h1 (by simp), _, rfl, ⟨⟨A, c, D, d, setCells_at [.int .i64 x.time, .slice A0 x.ps.length c0, .slice D0 x.gs.length d0] _ rfl h1, j2.rows snPCells_len, j3.rows snGCells_len, off fun k hk => (k2.lt k hk).1, off fun k hk => (k3.lt k hk).1⟩, ?_, h.own.upd hupd (by omega), Ext.upd h.ext hupd h.lo, h.lo, h.xy⟩⟩
 exact hupd.blk h.ybox (by omega)
theorem setY (h : SpB w0 w X Y x old u l) (v : Vw) : w.there Y 0 [Value.int .i64 v.1, .int .i64 v.2.1, .int .i64 v.2.2].length ∧ ∃ w', w.setCells Y 0 [.int .i64 v.1, .int .i64 v.2.1, .int .i64 v.2.2] = w' ∧ SpB w0 w' X Y x v u l := by
 obtain ⟨A, c, D, d, h1, h2, h3, h4, h5⟩ := h.xbox
 have hupd := setCells_upd Y [Value.int .i64 v.1, .int .i64 v.2.1, .int .i64 v.2.2] w 0
 have hxy := h.xy
 have hlo := h.lo
 refine ⟨there_row h.ybox (by simp [vwC]), _, rfl, ⟨⟨A, c, D, d, hupd.blk h1 (by omega), h2.grown hupd (fun h0 a ha e => (h4 h0 a ha).2.1 (by injection e with e; exact e.symm)), h3.grown hupd (fun h0 a ha e => (h5 h0 a ha).2.1 (by injection e with e; exact e.symm)), h4, h5⟩, setCells_at [.int .i64 old.1, .int .i64 old.2.1, .int .i64 old.2.2] _ rfl h.ybox, h.own.upd hupd (by omega), Ext.upd h.ext hupd (by omega), h.lo, h.xy⟩⟩
theorem ends {done : List Sp} {s : Sp} (h : SpB w0 w X Y x old u (done ++ [s])) (t : Int) : ∃ g c, u = .slice (some ⟨g, 0, none⟩) (done.length + 1) c ∧ g < w.heap.size ∧ w.cell? ⟨g, done.length * 5 + 1, none⟩ = some (.int .i64 s.till) ∧ w.frozen? ⟨g, done.length * 5 + 1, none⟩ = false ∧ SpB w0 (w.setCell ⟨g, done.length * 5 + 1, none⟩ (.int .i64 t)) X Y x old u (done ++ [Sp.close t s]) := by
 obtain ⟨A, c, D, d, h1, h2, h3, h4, h5⟩ := h.xbox
 have hi : (done ++ [s])[done.length]? = some s := by simp
 obtain ⟨g, c', hv, hown, hB, hlt, hth, ho, hu⟩ := h.own.setCell spL_len hi (j := 1) (d := .int .i64 t) (by omega) (x' := Sp.close t s) rfl
 rw [List.length_append, List.length_singleton] at hv
 have hset : (done ++ [s]).set done.length (Sp.close t s) = done ++ [Sp.close t s] := by simp
 rw [hset] at ho
 have hxy := h.xy
 have hlo := h.lo
 have hrow := h.own.rows spL_len
 rw [hv] at hrow
 have hcell : w.cell? ⟨g, done.length * 5 + 1, none⟩ = some (.int .i64 s.till) := by
  have hr2 : RowsAt 5 spL w (.slice (some ⟨g, 0, none⟩) (done.length + 1) c') (done ++ [s]) := hrow
  obtain ⟨b, o, hb, _, hcc⟩ := RowsAt.get hr2 hi
  simp only [Option.some.injEq, Addr.mk.injEq, and_true] at hb
  obtain ⟨rfl, rfl⟩ := hb
  have := hcc 1 _ rfl
  rwa [Nat.zero_add] at this
 have hfz := (there_one hth).2
 refine ⟨g, c', hv, hlt, hcell, hfz, ⟨⟨A, c, D, d, hu.blk h1 (by omega), h2.grown hu (fun h0 a ha e => (h4 h0 a ha).2.2 (by rw [hown]; exact e)), h3.grown hu (fun h0 a ha e => (h5 h0 a ha).2.2 (by rw [hown]; exact e)), h4, h5⟩, hu.blk h.ybox (by omega), ho, Ext.upd h.ext hu (by omega), h.lo, h.xy⟩⟩
theorem push (h : SpB w0 w X Y x old u l) (s : Sp) (hl : l.length ≤ 1000000) :
    ∃ u' w', (Builtin.append_ #[27, 27] 27 #[u, .slice (some ⟨w.heap.size, 0, none⟩) 1 1]).run Tryd.prog (w.alloc (.cells (spL s).toArray 36)) = .ok u' w' ∧ SpB w0 w' X Y x old u' (l ++ [s]) ∧ ∀ (b : Nat) (o : Obj), w.heap[b]? = some o → u.ownBlock ≠ some b → w'.heap[b]? = some o := by
 obtain ⟨i0, I0, I1, I2, I3⟩ := info_parts Tryd.infoSP
 obtain ⟨A, c, D, d, h1, h2, h3, h4, h5⟩ := h.xbox
 have hY := blk_lt h.ybox
 have hX := blk_lt h1
 have hxy := h.xy
 have hlo := h.lo
 obtain ⟨u', w', hr, ho, hg, hb⟩ := OwnRows.append2 (P := Tryd.prog) (e := 36) (m := 5) (f := spL) (xs := l) (ys := [s]) 27 Tryd.underlying27 I0 I1 I2 I3 rfl (by decide) spL_len spL_one (h.own.alloc (.cells (spL s).toArray 36)) (rows_one w 36 s) (by simp [maxLen]; omega) (by simp; omega) (by simp; omega)
 have hlt : ∀ {A : Option Addr} {n c m : Nat} {α : Type} {f : α → List Value} {xs : List α}, RowsAt m f w (.slice A n c) xs → 0 < n → ∀ a, A = some a → a.block < w.heap.size := fun h h0 a ha => by
  obtain ⟨A', c', hv, _, hA⟩ := h
  simp only [Value.slice.injEq] at hv
  obtain ⟨b, o, hAe, hl, _⟩ := hA (by rw [← hv.2.1]; exact h0)
  rw [← hv.1, ha] at hAe
  obtain rfl := Option.some.inj hAe
  exact hl
 have hoff : ∀ {A : Option Addr} {n : Nat}, (0 < n → ∀ a, A = some a → a.block < w.heap.size) → SpOff X Y u n A → SpOff X Y u' n A := fun hA ho h0 a ha => by
  obtain ⟨k1, k2, k3⟩ := ho h0 a ha
  refine ⟨k1, k2, fun e => ?_⟩
  rcases hb with hb | hb
  · exact k3 (hb ▸ e)
  · rw [hb] at e
    injection e with e
    have := hA h0 a ha
    simp at e
    omega
 have hrow : ∀ k, k < Y + 1 → u.ownBlock ≠ some k := fun k hk e => by have := (h.own.lt k e).1; omega
 refine ⟨u', w', hr, ⟨⟨A, c, D, d, ?_, ?_, ?_, hoff (hlt h2) h4, hoff (hlt h3) h5⟩, ?_, ho, ?_, h.lo, h.xy⟩, fun b o hb' hne => (hg.block b (by have := blk_lt hb'; simp; omega) (fun e => hne e.symm)).trans (blk_alloc hb' _)⟩
 · rw [hg.block X (by simp; omega) (fun e => hrow X (by omega) e.symm)]
   exact blk_alloc h1 _
 · exact (h2.ext ((Ext.refl w).alloc _)).grown hg (fun h0 a ha e => (h4 h0 a ha).2.2 e)
 · exact (h3.ext ((Ext.refl w).alloc _)).grown hg (fun h0 a ha e => (h5 h0 a ha).2.2 e)
 · rw [hg.block Y (by simp; omega) (fun e => hrow Y (by omega) e.symm)]
   exact blk_alloc h.ybox _
 · exact Below.grown (h.ext.alloc _) hg (by have := h.ext.size; simp; omega) fun k hk => by have := (h.own.lt k hk).1; omega
end SpB
set_option maxRecDepth 100000 in
set_option maxHeartbeats 2000000 in
theorem lclo_any (x : Gs4) (g : Int) (G : Nat) (r : Bool) (hr : (x.1 == g) = r) (w : World) (hG : w.cell? ⟨G, 0, none⟩ = some (.int .i64 g)) (hlt : G < w.heap.size) : Calls Tryd.prog 20 #[.agg #[.int .i64 x.1, .int .i64 x.2.1, .int .i64 x.2.2.1, .int .i64 x.2.2.2], .pointer (some ⟨G, 0, none⟩)] w fun e w' => e = .returned (.bool r) ∧ Ext w w' := by
 obtain ⟨w1, hw1⟩ : ∃ w1, w.alloc (.cells #[.int .i64 x.1, .int .i64 x.2.1, .int .i64 x.2.2.1, .int .i64 x.2.2.2] 49) = w1 := ⟨_, rfl⟩
 have hx : Ext w w1 := by rw [← hw1]; exact (Ext.refl w).alloc _
 have hb : w1.heap[w.heap.size]? = some (.cells #[.int .i64 x.1, .int .i64 x.2.1, .int .i64 x.2.2.1, .int .i64 x.2.2.2] 49 (0, 0)) := by rw [← hw1]; exact blk_new w _
 have hG1 : w1.cell? ⟨G, 0, none⟩ = some (.int .i64 g) := by rw [Below.cell (p := ⟨G, 0, none⟩) hx hlt]; exact hG
 have h1 := blk_cell hb 0 _ rfl
 have HX := Lib.hid hx
 have HR := Lib.hid hr
 have HW := Lib.hid hw1
 clear hx hb hG hr hw1 hlt
 go_enter Tryd.func20, Tryd.ntmps20
 go_upto_region 1 with fail
 rw [HW.out]
 go_wp2
 go_ret
 exact ⟨by rw [← HR.out] <;> rfl, HX.out⟩
set_option maxRecDepth 100000 in
set_option maxHeartbeats 2000000 in
theorem lidx_any (A : Option Addr) (c : Nat) (l : List Gs4) (g : Int) (G : Nat) (w : World) (h : RowsAt 4 snGCells w (.slice A l.length c) l) (hl : l.length ≤ 100000000) (hG : w.cell? ⟨G, 0, none⟩ = some (.int .i64 g)) (hGl : G < w.heap.size) :
    Calls Tryd.prog 19 #[.slice A l.length c, .func (.func 20) #[] #[.pointer (some ⟨G, 0, none⟩)]] w fun e w' => ∃ i : Int, e = .returned (.int .i64 i) ∧ ((i = -1 ∧ ∀ (j : Nat) x, l[j]? = some x → x.1 ≠ g) ∨ ∃ k : Nat, i = (k : Int) ∧ (∃ x, l[k]? = some x ∧ x.1 = g) ∧ ∀ (j : Nat) x, l[j]? = some x → j < k → x.1 ≠ g) ∧ Ext w w' := by
 have H := Lib.hid h
 have HG := Lib.hid hG
 have HGL := Lib.hid hGl
 have hl' : (l.length : Int) ≤ 100000000 := by omega
 clear h hG hGl
 go_enter Tryd.func19, Tryd.ntmps19
 go_wp2_with fail
 go_loopw [8] (fun iv wr => ∃ k : Nat, k ≤ l.length ∧ iv = .int .i64 k ∧ (∀ (j : Nat) x, l[j]? = some x → j < k → x.1 ≠ g) ∧ Ext w wr) (fun iv _ => l.length - (intOf iv).toNat)
 case atStart => exact ⟨0, Nat.zero_le _, rfl, fun j x _ h => by omega, Ext.refl _⟩
 case round =>
  obtain ⟨k, hk, rfl, hall, hx⟩ := hrel
  have HA := Lib.hid hall
  have HX := Lib.hid hx
  clear hall hx
  by_cases hlt : k < l.length
  · obtain ⟨x, hx⟩ : ∃ x, l[k]? = some x := ⟨_, List.getElem?_eq_getElem hlt⟩
    have HXK := Lib.hid hx
    have hcl := lclo_any x g G _ rfl wr (by rw [Below.cell (p := ⟨G, 0, none⟩) HX.out HGL.out]; exact HG.out) (Nat.lt_of_lt_of_le HGL.out HX.out.size)
    have HCL := Lib.hid hcl
    obtain ⟨b, o, rfl, hb, hc⟩ := (H.out.ext HX.out).get hx
    have c0 := hc 0 _ rfl; have c1 := hc 1 _ rfl; have c2 := hc 2 _ rfl; have c3 := hc 3 _ rfl
    rw [Nat.add_zero] at c0
    clear hx hb hcl hc
    go_wp2_with fail
    refine HCL.out.mono ?_
    rintro e wa ⟨rfl, hxa⟩
    have HXA := Lib.hid (HX.out.trans hxa)
    clear hxa c0 c1 c2 c3
    by_cases h1 : x.1 = g
    · have HN := Lib.hid h1
      have h1' : (x.1 == g) = true := by simpa using h1
      clear h1
      go_wp2
      go_ret
      exact ⟨k, rfl, .inr ⟨k, rfl, ⟨x, HXK.out, HN.out⟩, HA.out⟩, HXA.out⟩
    · have h1' : (x.1 == g) = false := by simpa using h1
      have HN := Lib.hid h1
      clear h1
      go_wp2
      go_roundw
      case rel =>
       refine ⟨k + 1, by omega, by go_num, fun j y hy hj => ?_, HXA.out⟩
       by_cases hjk : j < k
       · exact HA.out j y hy hjk
       · obtain rfl : j = k := by omega
         have := HXK.out
         rw [hy] at this
         injection this with this
         rw [this]
         exact HN.out
      case measure => simp [intOf]; omega
  · obtain rfl : k = l.length := by omega
    go_wp2
    go_ret
    exact ⟨-1, rfl, .inl ⟨rfl, fun j x hj => HA.out j x hj (List.getElem?_eq_some_iff.1 hj).1⟩, HX.out⟩
theorem drop_cons {α : Type} {l : List α} {k : Nat} {x : α} (h : l[k]? = some x) : l.drop k = x :: l.drop (k + 1) := by
 obtain ⟨hk, rfl⟩ := List.getElem?_eq_some_iff.1 h
 exact List.drop_eq_getElem_cons hk
set_option maxRecDepth 100000 in
set_option maxHeartbeats 8000000 in
theorem lsum_any (v : Value) (l : List Sp) (st : Int) (w : World) (h : RowsAt 5 spL w v l) (hl : l.length ≤ 1000000) (hin : ∀ s ∈ l, s.till ≤ 9223372036854775807) (r : Int) (hr : Sp.sum l st = r) :
    Calls Tryd.prog 13 #[v, .int .i64 st] w fun e w' => e = .returned (.int .i64 r) ∧ Ext w w' := by
 obtain ⟨A, c, rfl, -⟩ := h.form
 have H := Lib.hid h
 have HIN := Lib.hid hin
 have HR0 := Lib.hid hr
 have hl' : (l.length : Int) ≤ 1000000 := by omega
 clear h hin hr
 go_enter Tryd.func13, Tryd.ntmps13
 go_wp2_with fail
 go_loopw [5, 11] (fun av iv wr => ∃ (k : Nat) (a : Int), k ≤ l.length ∧ iv = .int .i64 k ∧ av = .int .i64 a ∧ Hid (0 ≤ a ∧ a ≤ 4611686018427387903 ∧ (l.drop k).foldl (Sp.add st) a = r) ∧ Ext w wr) (fun _ iv _ => l.length - (intOf iv).toNat)
 case atStart => exact ⟨0, 0, Nat.zero_le _, rfl, rfl, Lib.hid ⟨by decide, by decide, HR0.out⟩, Ext.refl _⟩
 case round =>
  obtain ⟨k, a, hk, rfl, rfl, HA, hx⟩ := hrel
  have HX := Lib.hid hx
  clear hx
  by_cases hlt : k < l.length
  · obtain ⟨s, hs⟩ : ∃ s, l[k]? = some s := ⟨_, List.getElem?_eq_getElem hlt⟩
    have HD := Lib.hid (drop_cons hs)
    have ht := HIN.out s (List.mem_of_getElem? hs)
    obtain ⟨b, o, hB, hb, hc⟩ := (H.out.ext HX.out).get hs
    subst hB
    obtain ⟨sf, sl, ss, sn, sw⟩ := s
    simp only at ht
    have k0 := hc 0 _ rfl
    have k1 := hc 1 _ rfl
    have k2 := hc 2 _ rfl
    have k3 := hc 3 _ rfl
    have k4 := hc 4 _ rfl
    rw [Nat.add_zero] at k0
    clear hs hb hc
    go_upto_region 5 with fail
    obtain ⟨w3, hw3⟩ : ∃ w3, wr.alloc (.cells #[.int .i64 sf, .int .i64 sl, .int .i64 ss, .int .i64 sn, .string sw] 36) = w3 := ⟨_, rfl⟩
    have HX3 : Hid (Ext w w3) := Lib.hid (by rw [← hw3]; exact HX.out.alloc _)
    have HQ3 : Hid (w3.heap[wr.heap.size]? = some (.cells #[.int .i64 sf, .int .i64 sl, .int .i64 ss, .int .i64 sn, .string sw] 36 (0, 0))) := Lib.hid (by rw [← hw3]; exact blk_new wr _)
    rw [hw3]
    clear hw3 k0 k1 k2 k3 k4
    have z0 := blk_cell HQ3.out 0 _ rfl
    have z1 := blk_cell HQ3.out 1 _ rfl
    have z2 := blk_cell HQ3.out 2 _ rfl
    obtain ⟨a0, a1, hf⟩ := HA.out
    rw [HD.out, List.foldl_cons] at hf
    have HF := Lib.hid hf
    clear hf
    by_cases c1 : ss = st
    rotate_left 1
    · have e1 : (ss != st) = true := by simpa using c1
      have HN : Hid (Sp.add st a ⟨sf, sl, ss, sn, sw⟩ = a) := Lib.hid (by unfold Sp.add; rw [if_neg (fun h => c1 h.1)])
      clear c1
      go_wp2
      go_roundw
      case rel => exact ⟨k + 1, a, by omega, by go_num, rfl, Lib.hid ⟨a0, a1, by rw [← HF.out, HN.out]⟩, HX3.out⟩
      case measure => simp [intOf]; omega
    have e1 : (ss != st) = false := by simpa using c1
    have C1 := Lib.hid c1
    clear c1
    by_cases c2 : sf < 0
    · have e2 : decide (sf < 0) = true := decide_eq_true c2
      have HN : Hid (Sp.add st a ⟨sf, sl, ss, sn, sw⟩ = a) := Lib.hid (by unfold Sp.add; rw [if_neg (fun h => by have := h.2.1; simp only at this; omega)])
      clear c2
      go_wp2
      go_roundw
      case rel => exact ⟨k + 1, a, by omega, by go_num, rfl, Lib.hid ⟨a0, a1, by rw [← HF.out, HN.out]⟩, HX3.out⟩
      case measure => simp [intOf]; omega
    have e2 : decide (sf < 0) = false := decide_eq_false c2
    have c2' : 0 ≤ sf := by omega
    clear c2
    by_cases c3 : sl < sf
    · have e3 : decide (sl < sf) = true := decide_eq_true c3
      have HN : Hid (Sp.add st a ⟨sf, sl, ss, sn, sw⟩ = a) := Lib.hid (by unfold Sp.add; rw [if_neg (fun h => by have := h.2.2; simp only at this; omega)])
      clear c3
      go_wp2
      go_roundw
      case rel => exact ⟨k + 1, a, by omega, by go_num, rfl, Lib.hid ⟨a0, a1, by rw [← HF.out, HN.out]⟩, HX3.out⟩
      case measure => simp [intOf]; omega
    have e3 : decide (sl < sf) = false := decide_eq_false c3
    have c3' : sf ≤ sl := by omega
    clear c3
    have HN : Hid (Sp.add st a ⟨sf, sl, ss, sn, sw⟩ = min (a + (sl - sf)) 4611686018427387903) := Lib.hid (by unfold Sp.add Sp.most; rw [if_pos ⟨C1.out, c2', c3'⟩])
    by_cases c4 : 4611686018427387903 - a < sl - sf
    · have e4 : decide (4611686018427387903 - a < sl - sf) = true := decide_eq_true c4
      have HM : Hid (r = 4611686018427387903) := Lib.hid (by
       rw [← HF.out, HN.out, show min (a + (sl - sf)) 4611686018427387903 = Sp.most by unfold Sp.most; omega]
       exact Sp.sum_full st _)
      clear c4
      go_wp2
      go_ret
      exact ⟨by rw [HM.out] <;> rfl, HX3.out⟩
    · have e4 : decide (4611686018427387903 - a < sl - sf) = false := decide_eq_false c4
      have c5 : a + (sl - sf) ≤ 4611686018427387903 := by omega
      clear c4
      go_wp2
      go_roundw
      case rel => exact ⟨k + 1, a + (sl - sf), by omega, by go_num, by go_num, Lib.hid ⟨by omega, c5, by rw [← HF.out, HN.out, show min (a + (sl - sf)) 4611686018427387903 = a + (sl - sf) by omega]⟩, HX3.out⟩
      case measure => simp [intOf]; omega
  · obtain rfl : k = l.length := by omega
    have HE : Hid (a = r) := Lib.hid (by have := HA.out.2.2; rw [List.drop_length] at this; exact this)
    go_wp2
    go_ret
    exact ⟨by rw [← HE.out] <;> rfl, HX.out⟩
theorem lookG_yes {g : Int} {x : Sn} {k : Nat} {y : Gs4} (hk : x.gs[k]? = some y) (hy : y.1 = g) (hf : ∀ (j : Nat) z, x.gs[j]? = some z → j < k → z.1 ≠ g) : Sp.lookG g x = some (y.2.1, y.2.2.1, y.2.2.2) := by
 unfold Sp.lookG
 rw [Md.fnd_at hk hy hf]
 simp only [List.getD_eq_getElem?_getD, hk, Option.getD_some]
theorem lookG_no {g : Int} {x : Sn} (h : ∀ (j : Nat) z, x.gs[j]? = some z → z.1 ≠ g) : Sp.lookG g x = none := by
 unfold Sp.lookG
 have : Md.fnd x.gs g = none := Md.fnd_none.2 fun y hy => by
  obtain ⟨j, hj⟩ := List.mem_iff_getElem?.1 hy
  exact h j y hj
 rw [this]
theorem vw_store {w w2 : World} {R : Nat} {x y z : Value} (hx : Ext w w2) (hR : w2.heap[R]? = some (.cells #[x, y, z] 46 (0, 0))) (h1 : w.heap.size ≤ R) (v : Vw) :
    w2.there R 0 [Value.int .i64 v.1, .int .i64 v.2.1, .int .i64 v.2.2].length ∧ ∃ w6, w2.setCells R 0 [.int .i64 v.1, .int .i64 v.2.1, .int .i64 v.2.2] = w6 ∧ w6.heap[R]? = some (.cells ([Value.int .i64 v.1, .int .i64 v.2.1, .int .i64 v.2.2]).toArray 46 (0, 0)) ∧ Ext w w6 := by
 have hu := setCells_upd R [Value.int .i64 v.1, .int .i64 v.2.1, .int .i64 v.2.2] w2 0
 exact ⟨there_row hR (by simp), _, rfl, setCells_at [x, y, z] _ rfl hR, Ext.upd hx hu h1⟩
theorem vw_one (a b c : Int) : ∀ x ∈ [Value.int .i64 a, .int .i64 b, .int .i64 c], x.oneCell' = true := by intro u hu; simp at hu; rcases hu with rfl | rfl | rfl <;> rfl
set_option maxRecDepth 100000 in
set_option maxHeartbeats 8000000 in
theorem lookG_any (g : Int) (G : Nat) (v : Value) (x : Sn) (w : World) (hs : SnAt w v x) (hg : x.gs.length ≤ 10000) (hG : w.cell? ⟨G, 0, none⟩ = some (.int .i64 g)) (hlt : G < w.heap.size) (o : Option Vw) (ho : Sp.lookG g x = o) :
    Calls Tryd.prog 18 #[v, .pointer (some ⟨G, 0, none⟩)] w fun e w' => e = .returned (.tuple #[.agg (vwC (o.getD (0, 0, 0))), .bool o.isSome]) ∧ Ext w w' := by
 subst ho
 obtain ⟨A, c, B, d, rfl, h2, h3⟩ := hs
 obtain ⟨time, ps, gs⟩ := x
 simp only at h2 h3 hg ⊢
 have hmf : ∀ (fn : Fn) (first cap : Array Value) (w : World), (Instr.makeFunc fn first cap).run Tryd.prog w = .ok (.func fn first cap) w := fun _ _ _ _ => rfl
 obtain ⟨wa, hwa⟩ : ∃ wa, w.alloc (.cells #[.int .i64 time, .slice A ps.length c, .slice B gs.length d] 25) = wa := ⟨_, rfl⟩
 obtain ⟨w1, hw1⟩ : ∃ w1, wa.alloc (.cells #[.int .i64 0, .int .i64 0, .int .i64 0] 46) = w1 := ⟨_, rfl⟩
 have hxa : Ext w wa := by rw [← hwa]; exact (Ext.refl w).alloc _
 have hx1 : Ext wa w1 := by rw [← hw1]; exact (Ext.refl wa).alloc _
 have hba : wa.heap[w.heap.size]? = some (.cells #[.int .i64 time, .slice A ps.length c, .slice B gs.length d] 25 (0, 0)) := by rw [← hwa]; exact blk_new w _
 obtain ⟨Rb, hR⟩ : ∃ Rb, wa.heap.size = Rb := ⟨_, rfl⟩
 have hb1 : w1.heap[Rb]? = some (.cells #[.int .i64 0, .int .i64 0, .int .i64 0] 46 (0, 0)) := by rw [← hw1, ← hR]; exact blk_new wa _
 have HRR : Hid (w.heap.size + 1 = Rb) := Lib.hid (by rw [← hR, ← hwa, World.size_alloc])
 have HRA := Lib.hid hR
 have HWA := Lib.hid hwa
 have HW1 := Lib.hid hw1
 have HXA := Lib.hid hxa
 have HX1 := Lib.hid hx1
 have HBA := Lib.hid hba
 have HB1 := Lib.hid hb1
 have H3 := Lib.hid (h3.ext (hxa.trans hx1))
 have HA3 := Lib.hid (h3.ext hxa)
 have HG : Hid (w1.cell? ⟨G, 0, none⟩ = some (.int .i64 g)) := Lib.hid ((Below.cell (p := ⟨G, 0, none⟩) (hxa.trans hx1) hlt).trans hG)
 have HGL : Hid (G < w1.heap.size) := Lib.hid (Nat.lt_of_lt_of_le hlt (hxa.trans hx1).size)
 have c2 := blk_cell (hx1.blk hba) 2 _ rfl
 have hgl : (gs.length : Int) ≤ 10000 := by omega
 clear hwa hw1 hxa hx1 hba hb1 hR hG hlt h2 h3
 go_enter Tryd.func18, Tryd.ntmps18
 go_upto_region 1 with fail
 rw [HWA.out, HW1.out, HRR.out]
 go_wp2_with fail
 refine (lidx_any B d gs g G w1 H3.out (by omega) HG.out HGL.out).mono ?_
 rintro e w3 ⟨i, rfl, hi, hx3⟩
 have HX3 := Lib.hid (HX1.out.trans hx3)
 have HB3 := Lib.hid (hx3.blk HB1.out)
 have HH3 := Lib.hid (H3.out.ext hx3)
 clear c2
 rcases hi with ⟨rfl, hno⟩ | ⟨k, rfl, ⟨y, hk, hy⟩, hf⟩
 · have HN := Lib.hid (lookG_no (x := ⟨time, ps, gs⟩) hno)
   obtain ⟨hth, w6, hw6, hb6, hx6⟩ := vw_store (HXA.out.trans HX3.out) HB3.out (by have := HRR.out; omega) (0, 0, 0)
   have HTH := Lib.hid hth
   have HW6 := Lib.hid hw6
   have HB6 := Lib.hid hb6
   have HX6 := Lib.hid hx6
   clear hth hw6 hb6 hx6 hno hx3
   go_wp2_with (refine wpList_store_rowN rfl 46 _ _ rfl Rb 0 [.int .i64 0, .int .i64 0, .int .i64 0] (.agg ([.int .i64 0, .int .i64 0, .int .i64 0]).toArray) (by go_simp) (by go_simp) rfl HTH.out (by kernel_rfl) (vw_one _ _ _) HW6.out ?_)
   refine bodyPost_cell_tmp rfl Rb _ _ _ _ rfl HB6.out Tryd.underlying46 rfl (by kernel_rfl) (.bool false) rfl rfl ?_
   rw [HN.out]
   exact ⟨rfl, HX6.out⟩
 · have HN := Lib.hid (lookG_yes (x := ⟨time, ps, gs⟩) hk hy (fun j z hz hj => hf j z hz hj))
   obtain ⟨bb, oo, hBB, hbb, hc⟩ := HA3.out.get hk
   subst hBB
   obtain ⟨yg, ys, ym, yq⟩ := y
   have hkl : (k : Int) < (gs.length : Int) := by have := (List.getElem?_eq_some_iff.1 hk).1; omega
   have e1 : decide ((k : Int) < 0) = false := decide_eq_false (by omega)
   have HCE : Hid (∀ v, Ext wa v → v.cell? ⟨bb, oo + k * 4 + 1, none⟩ = some (.int .i64 ys) ∧ v.cell? ⟨bb, oo + k * 4 + 2, none⟩ = some (.int .i64 ym) ∧ v.cell? ⟨bb, oo + k * 4 + 3, none⟩ = some (.int .i64 yq)) := Lib.hid fun v hv => ⟨(Below.cell (p := ⟨bb, oo + k * 4 + 1, none⟩) hv hbb).trans (hc 1 _ rfl), (Below.cell (p := ⟨bb, oo + k * 4 + 2, none⟩) hv hbb).trans (hc 2 _ rfl), (Below.cell (p := ⟨bb, oo + k * 4 + 3, none⟩) hv hbb).trans (hc 3 _ rfl)⟩
   simp only at HN
   have hXr : Ext wa w3 := HX3.out
   have hKr : ∃ x : Value × Value × Value, w3.heap[Rb]? = some (.cells #[x.1, x.2.1, x.2.2] 46 (0, 0)) := ⟨(_, _, _), HB3.out⟩
   have hMr : Rb + 1 ≤ w3.heap.size := blk_lt HB3.out
   have hRa : wa.heap.size ≤ Rb := Nat.le_of_eq HRA.out
   clear hk hy hf hbb hc hx3
   go_wp2_with fail
   refine region_rgz ([(19, (fun u => u = undef : Value → Prop), (fun u w => w.heap[Rb]? = some (.cells ([Value.int .i64 ys, .int .i64 ym, .int .i64 yq]).toArray 46 (0, 0)) : (Nat → GV) → World → Prop))]) (wa) (Rb + 1) (Rb) (19) (fun w => ∃ x : Value × Value × Value, w.heap[Rb]? = some (.cells #[x.1, x.2.1, x.2.2] 46 (0, 0))) ([]) (by kernel_rfl) (by kernel_rfl) ?_ ?_ (by omega) (fun w w2 hl hk => by first | (obtain ⟨x, hx⟩ := hk; exact ⟨x, (hl _ (by omega)).trans hx⟩) | exact hk.low hl (by assumption)) ?_ ?_ ?_ ?_
   · exact List.forall_mem_nil _
   · exact List.forall_mem_cons.2 ⟨⟨⟨_, rfl⟩, fun _ _ _ _ ht => ht, fun u w w2 hx ht => hx.blk ht, List.forall_mem_nil _, fun hne => absurd rfl hne⟩, List.forall_mem_nil _⟩
   · first | assumption | exact Ext.refl _
   · first | assumption | omega
   · assumption
   refine rg_pure (v := ?_) rfl (by kernel_rfl) (by kernel_rfl) (fun w hS hN => ?_) ?_
   rotate_left 1
   · obtain ⟨hS, hM, hK⟩ := hS
     clear hN
     go_simp
     refine givesP_mk ?_
     with_reducible rfl
   refine rg_pure (v := ?_) rfl (by kernel_rfl) (by kernel_rfl) (fun w hS hN => ?_) ?_
   rotate_left 1
   · obtain ⟨hS, hM, hK⟩ := hS
     have q2 := blk_cell (hS.blk HBA.out) 2 _ rfl
     clear hN
     go_simp
     refine givesP_mk ?_
     with_reducible rfl
   iterate 3
    refine rg_pure (v := ?_) rfl (by kernel_rfl) (by kernel_rfl) (fun w hS hN => ?_) ?_
    rotate_left 1
    · obtain ⟨hS, hM, hK⟩ := hS
      clear hN
      go_simp
      refine givesP_mk ?_
      with_reducible rfl
   refine rg_pure (v := ?_) rfl (by kernel_rfl) (by kernel_rfl) (fun w hS hN => ?_) ?_
   rotate_left 1
   · obtain ⟨hS, hM, hK⟩ := hS
     obtain ⟨k1, k2, k3⟩ := HCE.out w hS
     clear hN
     go_simp
     refine givesP_mk ?_
     with_reducible rfl
   refine rg_pure (v := ?_) rfl (by kernel_rfl) (by kernel_rfl) (fun w hS hN => ?_) ?_
   rotate_left 1
   · obtain ⟨hS, hM, hK⟩ := hS
     clear hN
     go_simp
     refine givesP_mk ?_
     with_reducible rfl
   refine rg_pure (v := ?_) rfl (by kernel_rfl) (by kernel_rfl) (fun w hS hN => ?_) ?_
   rotate_left 1
   · obtain ⟨hS, hM, hK⟩ := hS
     have q2 := blk_cell (hS.blk HBA.out) 2 _ rfl
     clear hN
     go_simp
     refine givesP_mk ?_
     with_reducible rfl
   iterate 3
    refine rg_pure (v := ?_) rfl (by kernel_rfl) (by kernel_rfl) (fun w hS hN => ?_) ?_
    rotate_left 1
    · obtain ⟨hS, hM, hK⟩ := hS
      clear hN
      go_simp
      refine givesP_mk ?_
      with_reducible rfl
   refine rg_pure (v := ?_) rfl (by kernel_rfl) (by kernel_rfl) (fun w hS hN => ?_) ?_
   rotate_left 1
   · obtain ⟨hS, hM, hK⟩ := hS
     obtain ⟨k1, k2, k3⟩ := HCE.out w hS
     clear hN
     go_simp
     refine givesP_mk ?_
     with_reducible rfl
   refine rg_pure (v := ?_) rfl (by kernel_rfl) (by kernel_rfl) (fun w hS hN => ?_) ?_
   rotate_left 1
   · obtain ⟨hS, hM, hK⟩ := hS
     clear hN
     go_simp
     refine givesP_mk ?_
     with_reducible rfl
   refine rg_pure (v := ?_) rfl (by kernel_rfl) (by kernel_rfl) (fun w hS hN => ?_) ?_
   rotate_left 1
   · obtain ⟨hS, hM, hK⟩ := hS
     have q2 := blk_cell (hS.blk HBA.out) 2 _ rfl
     clear hN
     go_simp
     refine givesP_mk ?_
     with_reducible rfl
   iterate 3
    refine rg_pure (v := ?_) rfl (by kernel_rfl) (by kernel_rfl) (fun w hS hN => ?_) ?_
    rotate_left 1
    · obtain ⟨hS, hM, hK⟩ := hS
      clear hN
      go_simp
      refine givesP_mk ?_
      with_reducible rfl
   refine rg_pure (v := ?_) rfl (by kernel_rfl) (by kernel_rfl) (fun w hS hN => ?_) ?_
   rotate_left 1
   · obtain ⟨hS, hM, hK⟩ := hS
     obtain ⟨k1, k2, k3⟩ := HCE.out w hS
     clear hN
     go_simp
     refine givesP_mk ?_
     with_reducible rfl
   refine rg_pure (v := ?_) rfl (by kernel_rfl) (by kernel_rfl) (fun w hS hN => ?_) ?_
   rotate_left 1
   · obtain ⟨hS, hM, hK⟩ := hS
     clear hN
     go_simp
     refine givesP_mk ?_
     with_reducible rfl
   refine rg_mem (fun u => u = undef : Value → Prop) (fun u w => w.heap[Rb]? = some (.cells ([Value.int .i64 ys, .int .i64 ym, .int .i64 yq]).toArray 46 (0, 0)) : (Nat → GV) → World → Prop) (fun _ w w2 => Upd (Rb) w w2 ∧ (fun w => ∃ x : Value × Value × Value, w.heap[Rb]? = some (.cells #[x.1, x.2.1, x.2.2] 46 (0, 0)) : World → Prop) w2) rfl rfl rfl rfl (by kernel_rfl) (by kernel_rfl) (fun w hS hN R hR => ?_) ?_
   · obtain ⟨hS, hM, hK⟩ := hS
     have HR := Lib.hid hR
     clear hR
     obtain ⟨x, hx⟩ := hK
     have HXK := Lib.hid hx
     clear hx hN
     refine givesM_store 46 _ _ rfl Rb 0 (by go_simp) [.int .i64 ys, .int .i64 ym, .int .i64 yq] (by go_simp) (there_row HXK.out (by simp)) (by kernel_rfl) (vw_one _ _ _) ?_
     exact HR.out _ _ rfl (setCells_at [x.1, x.2.1, x.2.2] _ rfl HXK.out) ⟨setCells_upd _ _ _ _, ⟨(_, _, _), setCells_at [x.1, x.2.1, x.2.2] [.int .i64 ys, .int .i64 ym, .int .i64 yq] rfl HXK.out⟩⟩
   rintro u19 s19 t19 rfl
   refine rg_pure (v := ?_) rfl (by kernel_rfl) (by kernel_rfl) (fun w hS hN => ?_) ?_
   rotate_left 1
   · obtain ⟨hS, hM, hK⟩ := hS
     clear hN
     go_simp
     refine givesP_mk ?_
     with_reducible rfl
   refine rg_done rfl (Nat.le_of_ble_eq_true (by kernel_rfl)) ?_
   intro w8 hS hT
   have HB8 : Hid (w8.heap[Rb]? = some (.cells ([Value.int .i64 ys, .int .i64 ym, .int .i64 yq]).toArray 46 (0, 0))) := Lib.hid (hT (19, ⟨undef, s19, t19⟩) (by simp))
   have HX8 := Lib.hid (HXA.out.trans hS.1)
   clear hT hS
   go_simp
   go_wp2
   refine bodyPost_cell_tmp rfl Rb _ _ _ _ rfl HB8.out Tryd.underlying46 rfl (by kernel_rfl) (.bool true) rfl rfl ?_
   rw [HN.out]
   exact ⟨rfl, HX8.out⟩
theorem lookP_out {p : Int} {x : Sn} (h : ¬ (1 ≤ p ∧ p ≤ x.ps.length)) : Sp.lookP p x = none := by unfold Sp.lookP; rw [if_neg h]
theorem lookP_at {x : Sn} {k : Nat} {m q : Int} (hk : x.ps[k]? = some (m, q)) : Sp.lookP ((k : Int) + 1) x = if m = 0 then some (0, 0, 0) else some (1, m, 0) := by
 have hl := (List.getElem?_eq_some_iff.1 hk).1
 unfold Sp.lookP
 rw [if_pos (by omega), show ((k : Int) + 1 - 1).toNat = k by omega, List.getD_eq_getElem?_getD, hk]
 rfl
set_option maxRecDepth 100000 in
set_option maxHeartbeats 8000000 in
theorem lookP_any (p : Int) (G : Nat) (v : Value) (x : Sn) (w : World) (hs : SnAt w v x) (hp : x.ps.length ≤ 10000) (hG : w.cell? ⟨G, 0, none⟩ = some (.int .i64 p)) (hlt : G < w.heap.size) (o : Option Vw) (ho : Sp.lookP p x = o) :
    Calls Tryd.prog 26 #[v, .pointer (some ⟨G, 0, none⟩)] w fun e w' => e = .returned (.tuple #[.agg (vwC (o.getD (0, 0, 0))), .bool o.isSome]) ∧ Ext w w' := by
 subst ho
 obtain ⟨A, c, B, d, rfl, h2, h3⟩ := hs
 obtain ⟨time, ps, gs⟩ := x
 simp only at h2 h3 hp ⊢
 obtain ⟨wa, hwa⟩ : ∃ wa, w.alloc (.cells #[.int .i64 time, .slice A ps.length c, .slice B gs.length d] 25) = wa := ⟨_, rfl⟩
 obtain ⟨w1, hw1⟩ : ∃ w1, wa.alloc (.cells #[.int .i64 0, .int .i64 0, .int .i64 0] 46) = w1 := ⟨_, rfl⟩
 have hxa : Ext w wa := by rw [← hwa]; exact (Ext.refl w).alloc _
 have hx1 : Ext wa w1 := by rw [← hw1]; exact (Ext.refl wa).alloc _
 have hba : wa.heap[w.heap.size]? = some (.cells #[.int .i64 time, .slice A ps.length c, .slice B gs.length d] 25 (0, 0)) := by rw [← hwa]; exact blk_new w _
 obtain ⟨Rb, hR⟩ : ∃ Rb, wa.heap.size = Rb := ⟨_, rfl⟩
 have hb1 : w1.heap[Rb]? = some (.cells #[.int .i64 0, .int .i64 0, .int .i64 0] 46 (0, 0)) := by rw [← hw1, ← hR]; exact blk_new wa _
 have HRR : Hid (w.heap.size + 1 = Rb) := Lib.hid (by rw [← hR, ← hwa, World.size_alloc])
 have HWA := Lib.hid hwa
 have HW1 := Lib.hid hw1
 have HXA := Lib.hid hxa
 have HX1 := Lib.hid hx1
 have HB1 := Lib.hid hb1
 have H2 := Lib.hid (h2.ext (hxa.trans hx1))
 have hg1 : w1.cell? ⟨G, 0, none⟩ = some (.int .i64 p) := (Below.cell (p := ⟨G, 0, none⟩) (hxa.trans hx1) hlt).trans hG
 have c1 := blk_cell (hx1.blk hba) 1 _ rfl
 have hpl : (ps.length : Int) ≤ 10000 := by omega
 clear hwa hw1 hxa hx1 hba hb1 hR hG hlt h2 h3
 go_enter Tryd.func26, Tryd.ntmps26
 go_upto_region 1 with fail
 rw [HWA.out, HW1.out, HRR.out]
 by_cases a1 : p < 1
 · have e1 : decide (p < 1) = true := decide_eq_true a1
   have HN := Lib.hid (lookP_out (x := ⟨time, ps, gs⟩) (p := p) (by omega))
   clear a1
   obtain ⟨hth, w6, hw6, hb6, hx6⟩ := vw_store (HXA.out.trans HX1.out) HB1.out (by have := HRR.out; omega) (0, 0, 0)
   have HTH := Lib.hid hth
   have HW6 := Lib.hid hw6
   have HB6 := Lib.hid hb6
   have HX6 := Lib.hid hx6
   clear hth hw6 hb6 hx6
   go_wp2_with (refine wpList_store_rowN rfl 46 _ _ rfl Rb 0 [.int .i64 0, .int .i64 0, .int .i64 0] (.agg ([.int .i64 0, .int .i64 0, .int .i64 0]).toArray) (by go_simp) (by go_simp) rfl HTH.out (by kernel_rfl) (vw_one _ _ _) HW6.out ?_)
   refine bodyPost_cell_tmp rfl Rb _ _ _ _ rfl HB6.out Tryd.underlying46 rfl (by kernel_rfl) (.bool false) rfl rfl ?_
   rw [HN.out]
   exact ⟨rfl, HX6.out⟩
 have e1 : decide (p < 1) = false := decide_eq_false a1
 by_cases a2 : (ps.length : Int) < p
 · have e2 : decide ((ps.length : Int) < p) = true := decide_eq_true a2
   have HN := Lib.hid (lookP_out (x := ⟨time, ps, gs⟩) (p := p) (by simp only; omega))
   clear a1 a2
   obtain ⟨hth, w6, hw6, hb6, hx6⟩ := vw_store (HXA.out.trans HX1.out) HB1.out (by have := HRR.out; omega) (0, 0, 0)
   have HTH := Lib.hid hth
   have HW6 := Lib.hid hw6
   have HB6 := Lib.hid hb6
   have HX6 := Lib.hid hx6
   clear hth hw6 hb6 hx6
   go_wp2_with (refine wpList_store_rowN rfl 46 _ _ rfl Rb 0 [.int .i64 0, .int .i64 0, .int .i64 0] (.agg ([.int .i64 0, .int .i64 0, .int .i64 0]).toArray) (by go_simp) (by go_simp) rfl HTH.out (by kernel_rfl) (vw_one _ _ _) HW6.out ?_)
   refine bodyPost_cell_tmp rfl Rb _ _ _ _ rfl HB6.out Tryd.underlying46 rfl (by kernel_rfl) (.bool false) rfl rfl ?_
   rw [HN.out]
   exact ⟨rfl, HX6.out⟩
 obtain ⟨k, rfl⟩ : ∃ k : Nat, p = (k : Int) + 1 := ⟨(p - 1).toNat, by omega⟩
 have e2 : decide ((ps.length : Int) < (k : Int) + 1) = false := decide_eq_false a2
 obtain ⟨⟨m, q⟩, hk⟩ : ∃ y, ps[k]? = some y := ⟨_, List.getElem?_eq_getElem (by omega)⟩
 have HN := Lib.hid (lookP_at (x := ⟨time, ps, gs⟩) hk)
 obtain ⟨bb, oo, hBB, hbb, hc⟩ := H2.out.get hk
 subst hBB
 have k0 := hc 0 _ rfl
 rw [Nat.add_zero] at k0
 have e3 : (k : Int) + 1 - 1 = (k : Int) := by omega
 have e4 : (k : Int) < (ps.length : Int) := by omega
 clear hk hbb hc a1 a2
 by_cases a3 : m = 0
 · have e5 : (m == 0) = true := by simpa using a3
   have HM : Hid (Sp.lookP ((k : Int) + 1) ⟨time, ps, gs⟩ = some (0, 0, 0)) := Lib.hid (by rw [HN.out, if_pos a3])
   clear a3
   obtain ⟨hth, w6, hw6, hb6, hx6⟩ := vw_store (HXA.out.trans HX1.out) HB1.out (by have := HRR.out; omega) (0, 0, 0)
   have HTH := Lib.hid hth
   have HW6 := Lib.hid hw6
   have HB6 := Lib.hid hb6
   have HX6 := Lib.hid hx6
   clear hth hw6 hb6 hx6
   go_wp2_with (refine wpList_store_rowN rfl 46 _ _ rfl Rb 0 [.int .i64 0, .int .i64 0, .int .i64 0] (.agg ([.int .i64 0, .int .i64 0, .int .i64 0]).toArray) (by go_simp) (by go_simp) rfl HTH.out (by kernel_rfl) (vw_one _ _ _) HW6.out ?_)
   refine bodyPost_cell_tmp rfl Rb _ _ _ _ rfl HB6.out Tryd.underlying46 rfl (by kernel_rfl) (.bool true) rfl rfl ?_
   rw [HM.out]
   exact ⟨rfl, HX6.out⟩
 · have e5 : (m == 0) = false := by simpa using a3
   have HM : Hid (Sp.lookP ((k : Int) + 1) ⟨time, ps, gs⟩ = some (1, m, 0)) := Lib.hid (by rw [HN.out, if_neg a3])
   clear a3
   obtain ⟨hth, w6, hw6, hb6, hx6⟩ := vw_store (HXA.out.trans HX1.out) HB1.out (by have := HRR.out; omega) (1, m, 0)
   have HTH := Lib.hid hth
   have HW6 := Lib.hid hw6
   have HB6 := Lib.hid hb6
   have HX6 := Lib.hid hx6
   clear hth hw6 hb6 hx6
   go_wp2_with (refine wpList_store_rowN rfl 46 _ _ rfl Rb 0 [.int .i64 1, .int .i64 m, .int .i64 0] (.agg ([.int .i64 1, .int .i64 m, .int .i64 0]).toArray) (by go_simp) (by go_simp) rfl HTH.out (by kernel_rfl) (vw_one _ _ _) HW6.out ?_)
   refine bodyPost_cell_tmp rfl Rb _ _ _ _ rfl HB6.out Tryd.underlying46 rfl (by kernel_rfl) (.bool true) rfl rfl ?_
   rw [HM.out]
   exact ⟨rfl, HX6.out⟩
set_option maxRecDepth 100000 in
set_option maxHeartbeats 4000000 in
theorem whyP_any (e : Le) (w : World) : Calls Tryd.prog 27 #[.agg (leL e).toArray] w fun e' w' => e' = .returned (.string ByteArray.empty) ∧ Ext w w' := by
 obtain ⟨⟨et, em, ek, eg, ep, eq⟩, ew, ev⟩ := e
 unfold leL
 go_enter Tryd.func27, Tryd.ntmps27
 go_wp2
 go_ret
 exact ⟨rfl, (Ext.refl w).alloc _⟩
set_option maxRecDepth 100000 in
set_option maxHeartbeats 4000000 in
theorem whyG_any (g : Int) (G : Nat) (e : Le) (w : World) (hG : w.cell? ⟨G, 0, none⟩ = some (.int .i64 g)) (hlt : G < w.heap.size) (o : ByteArray) (ho : Sp.whyG g e = o) : Calls Tryd.prog 21 #[.agg (leL e).toArray, .pointer (some ⟨G, 0, none⟩)] w fun e' w' => e' = .returned (.string o) ∧ Ext w w' := by
 subst ho
 obtain ⟨⟨et, em, ek, eg, ep, eq⟩, ew, ev⟩ := e
 unfold leL
 simp only
 obtain ⟨w1, hw1⟩ : ∃ w1, w.alloc (.cells #[.int .i64 et, .int .i64 em, .int .i64 ek, .int .i64 eg, .int .i64 ep, .int .i64 eq, .string ew, ev] 34) = w1 := ⟨_, rfl⟩
 have hx1 : Ext w w1 := by rw [← hw1]; exact (Ext.refl w).alloc _
 have hb1 : w1.heap[w.heap.size]? = some (.cells #[.int .i64 et, .int .i64 em, .int .i64 ek, .int .i64 eg, .int .i64 ep, .int .i64 eq, .string ew, ev] 34 (0, 0)) := by rw [← hw1]; exact blk_new w _
 have hg1 : w1.cell? ⟨G, 0, none⟩ = some (.int .i64 g) := (Below.cell (p := ⟨G, 0, none⟩) hx1 hlt).trans hG
 have q2 := blk_cell hb1 2 _ rfl
 have q3 := blk_cell hb1 3 _ rfl
 have q6 := blk_cell hb1 6 _ rfl
 have HW1 := Lib.hid hw1
 have HX1 := Lib.hid hx1
 clear hw1 hx1 hb1 hG hlt
 go_enter Tryd.func21, Tryd.ntmps21
 go_upto_region 1 with fail
 rw [HW1.out]
 by_cases a1 : eg = g
 rotate_left 1
 · have e1 : (eg == g) = false := by simpa using a1
   have HN : Hid (Sp.whyG g ⟨⟨et, em, ek, eg, ep, eq⟩, ew, ev⟩ = ByteArray.empty) := Lib.hid (by unfold Sp.whyG; rw [if_neg (fun h => a1 h.1)])
   clear a1
   go_wp2
   go_ret
   exact ⟨by rw [HN.out] <;> rfl, HX1.out⟩
 have e1 : (eg == g) = true := by simpa using a1
 by_cases a2 : ek = 5
 · have e2 : (ek == 5) = true := by simpa using a2
   have HN : Hid (Sp.whyG g ⟨⟨et, em, ek, eg, ep, eq⟩, ew, ev⟩ = ew) := Lib.hid (by unfold Sp.whyG; rw [if_pos ⟨a1, .inl a2⟩])
   clear a1 a2
   go_wp2
   go_ret
   exact ⟨by rw [HN.out] <;> rfl, HX1.out⟩
 have e2 : (ek == 5) = false := by simpa using a2
 by_cases a3 : ek = 6
 · have e3 : (ek == 6) = true := by simpa using a3
   have HN : Hid (Sp.whyG g ⟨⟨et, em, ek, eg, ep, eq⟩, ew, ev⟩ = ew) := Lib.hid (by unfold Sp.whyG; rw [if_pos ⟨a1, .inr a3⟩])
   clear a1 a2 a3
   go_wp2
   go_ret
   exact ⟨by rw [HN.out] <;> rfl, HX1.out⟩
 · have e3 : (ek == 6) = false := by simpa using a3
   have HN : Hid (Sp.whyG g ⟨⟨et, em, ek, eg, ep, eq⟩, ew, ev⟩ = ByteArray.empty) := Lib.hid (by unfold Sp.whyG; rw [if_neg (fun h => h.2.elim a2 a3)])
   clear a1 a2 a3
   go_wp2
   go_ret
   exact ⟨by rw [HN.out] <;> rfl, HX1.out⟩
theorem snmay_every (v : Value) (x : Sn) (w : World) (hs : SnAt w v x) : Calls Tryd.prog 31 #[v] w fun e w' => e = .returned (.bool x.may) ∧ Ext w w' := by
 by_cases h : 64 < x.ps.length ∨ 1000 < x.gs.length
 · obtain ⟨time, ps, gs⟩ := x
   have hm := sn_big (time := time) h
   rw [hm]
   exact snmay_big v ⟨time, ps, gs⟩ w hs h
 · exact snmay_any v x w hs (by omega) (by omega)
theorem vw_box (wa : World) (v : Vw) : ∃ wb, wa.alloc (.cells #[.int .i64 v.1, .int .i64 v.2.1, .int .i64 v.2.2] 46) = wb ∧ wb.heap[wa.heap.size]? = some (.cells (vwC v) 46 (0, 0)) ∧ Ext wa wb :=
 ⟨_, rfl, blk_new wa _, (Ext.refl wa).alloc _⟩
theorem run_eqV (a b c a' b' c' : Int) (w : World) : (Op.equalIn 10000 46 (.agg #[.int .i64 a, .int .i64 b, .int .i64 c]) (.agg #[.int .i64 a', .int .i64 b', .int .i64 c'])).run Tryd.prog w = .ok (decide ([a, b, c] = [a', b', c'])) w :=
 run_eqInts (ti := 3) Tryd.underlying3 (by kernel_rfl) (by kernel_rfl) 3 (by kernel_rfl) [a, b, c] [a', b', c'] rfl rfl w
theorem opt_same {a b : Option Vw} (h : a.getD (0, 0, 0) = b.getD (0, 0, 0)) (hs : a.isSome = b.isSome) : a = b := by
 cases a <;> cases b <;> simp_all
end Go.Proofs.YtohncgikdlbogaaDoor
