/-
  Several texts in one: Jzd, Vm, Jzc.
-/
import Derived.Test.YtohncgikdlbogaaDoorE18
import Derived.Test.YtohncgikdlbogaaDoorE01
import Derived.Lib.ItoaNum
import Derived.Test.YtohncgikdlbogaaDoorE16
set_option linter.unusedVariables false
set_option linter.unusedSimpArgs false
namespace Go.Proofs.YtohncgikdlbogaaDoor
open Go.RowKit
theorem Sp.ofP_none {x : Sn} {es : List Le} {p : Int} (h : Sp.snaps x es = none) : Sp.ofP x es p = [] := by
 unfold Sp.ofP
 rw [Sp.all_eq, h]
theorem Sp.ofP_some {x : Sn} {es : List Le} {p : Int} {s : List Sn} (h : Sp.snaps x es = some (x :: s)) : Sp.ofP x es p = Sp.fin ((x :: s).getLast (by simp)).time (Sp.rgo (Sp.lookP p) (fun _ => ByteArray.empty) es s (Sp.lookP p x, [], (Sp.lookP p x).map (Sp.opr x.time ByteArray.empty))) := by
 unfold Sp.ofP
 rw [Sp.all_eq, h]
 rfl
def pmV (m : Int) : Vw := if m = 0 then (0, 0, 0) else (1, m, 0)
theorem pmV_inj {a b : Int} (h : pmV a = pmV b) : a = b := by
 unfold pmV at h
 split at h <;> split at h <;> simp_all
theorem lookP_in {p : Int} {x : Sn} {j : Nat} (hp : p = (j : Int) + 1) {y : Int × Int} (hy : x.ps[j]? = some y) : Sp.lookP p x = some (pmV y.1) := by
 have hj := (List.getElem?_eq_some_iff.1 hy).1
 unfold Sp.lookP
 rw [if_pos (by omega)]
 have e : (p - 1).toNat = j := by omega
 rw [e, List.getD, hy]
 unfold pmV
 simp only [Option.getD_some]
 split <;> rfl
theorem opr_pm {t m : Int} (hm : 0 ≤ m) : Sp.opr t ByteArray.empty (pmV m) = ⟨t, t, (if 1 < m then 1 else m), m, ByteArray.empty⟩ := by
 unfold Sp.opr pmV
 split
 · next h => subst h; rfl
 · simp only [Sp.mk.injEq, true_and, and_true]
   split <;> omega
theorem lookP_off {p : Int} {x : Sn} (h : ¬ (1 ≤ p ∧ p ≤ x.ps.length)) : Sp.lookP p x = none := by
 unfold Sp.lookP
 rw [if_neg h]
theorem rgo_off {p : Int} : ∀ (l : List Le) (s : List Sn) (T : Int), (∀ y ∈ s, Sp.lookP p y = none) → Sp.fin T (Sp.rgo (Sp.lookP p) (fun _ => ByteArray.empty) l s (none, [], none)) = []
 | [], _, _, _ => by unfold Sp.rgo Sp.fin; rfl
 | _ :: _, [], _, _ => by unfold Sp.rgo Sp.fin; rfl
 | e :: l, y :: s, T, h => by
  unfold Sp.rgo Sp.rstep
  rw [h y (by simp)]
  simp only [if_true, Option.map_none]
  exact rgo_off l s T fun z hz => h z (List.mem_cons_of_mem _ hz)
theorem steps_ps {l : List Le} : ∀ {x : Sn} {s : List Sn}, Sp.steps l x = some s → ∀ y ∈ s, y.ps.length = x.ps.length := by
 induction l with
 | nil => intro x s h y hy; simp only [Sp.steps, Option.some.injEq] at h; subst h; simp at hy
 | cons e l ih =>
  intro x s h y hy
  unfold Sp.steps at h
  cases ha : Md.app x e.l with
  | none => rw [ha] at h; cases h
  | some z =>
   rw [ha] at h
   obtain ⟨s', hs', rfl⟩ := Option.map_eq_some_iff.1 h
   have h1 := (Md.app_time ha).2.2.2.2.2
   rcases List.mem_cons.1 hy with rfl | hy
   · exact h1
   · rw [ih hs' y hy, h1]
theorem may_pm {x : Sn} (hm : x.may = true) {j : Nat} {y : Int × Int} (hy : x.ps[j]? = some y) : 0 ≤ y.1 := by
 have hok := ((Sn.may_iff x).1 hm).2.2.2.1 y (List.mem_of_getElem? hy)
 unfold snPOk at hok
 simp only [Bool.and_eq_true, snNum_iff] at hok
 exact hok.1.1
theorem pm_min (a : Int) : min a 1 = if 1 < a then 1 else a := by split <;> omega
set_option maxRecDepth 100000 in
set_option maxHeartbeats 16000000 in
theorem rspP_any (v vl : Value) (x : Sn) (es : List Le) (p : Int) (w : World) (hs : SnAt w v x) (hl : RowsAt 8 leL w vl es) (hn : es.length ≤ 1000) (he : ∀ e ∈ es, ∃ A n c, e.stack = .slice A n c) (r : List Sp) (hr : Sp.ofP x es p = r) :
    Calls Tryd.prog 12 #[v, vl, .int .i64 p] w fun e w' => ∃ u, e = .returned u ∧ RowsAt 5 spL w' u r ∧ Ext w w' := by
 obtain ⟨A, c, D, d, rfl, h2, h3⟩ := hs
 obtain ⟨w1, hw1⟩ : ∃ w1, w.alloc (.cells #[.int .i64 x.time, .slice A x.ps.length c, .slice D x.gs.length d] 25) = w1 := ⟨_, rfl⟩
 have hx1 : Ext w w1 := by rw [← hw1]; exact (Ext.refl w).alloc _
 have hb1 : w1.heap[w.heap.size]? = some (.cells #[.int .i64 x.time, .slice A x.ps.length c, .slice D x.gs.length d] 25 (0, 0)) := by rw [← hw1]; exact blk_new w _
 obtain ⟨X, hX⟩ : ∃ X, w.heap.size = X := ⟨_, rfl⟩
 rw [hX] at hb1
 have HX := Lib.hid hX
 have HW1 := Lib.hid hw1
 have X1 := Lib.hid hx1
 have HB1 := Lib.hid hb1
 have HSN0 : Hid (SnAt w1 (.agg #[.int .i64 x.time, .slice A x.ps.length c, .slice D x.gs.length d]) x) := Lib.hid ⟨A, c, D, d, rfl, h2.ext hx1, h3.ext hx1⟩
 obtain ⟨AL, CL, rfl, -⟩ := hl.form
 have HLL := Lib.hid (hl.ext hx1)
 have HE := Lib.hid he
 have HRR := Lib.hid hr
 have hn' : (es.length : Int) ≤ 1000 := by omega
 clear hw1 hx1 hb1 hX h2 h3 hl he hr
 go_enter Tryd.func12, Tryd.ntmps12
 go_upto_region 1 with fail
 rw [HW1.out, HX.out]
 obtain ⟨o, ho⟩ : ∃ o, Sp.snaps x es = o := ⟨_, rfl⟩
 have HO := Lib.hid ho
 go_wp2_with (refine wpList_load_rowW rfl 25 _ rfl X rfl [.int .i64 x.time, .slice A x.ps.length c, .slice D x.gs.length d] (.agg #[.int .i64 x.time, .slice A x.ps.length c, .slice D x.gs.length d]) rfl _ (range_row HB1.out) Tryd.underlying25 rfl (by kernel_rfl) ?_)
 refine (rsnaps_any _ _ x es w1 HSN0.out HLL.out hn HE.out o ho).mono ?_
 rintro e w2 ⟨us, rfl, hus0, hus, hx2⟩
 clear ho
 have X2 := Lib.hid (X1.out.trans hx2)
 have HB2 := Lib.hid (hx2.blk HB1.out)
 have HL2 := Lib.hid (HLL.out.ext hx2)
 clear HB1 HSN0 HLL
 cases o with
 | none =>
  obtain rfl : [] = r := by rw [← HRR.out]; exact (Sp.ofP_none HO.out).symm
  have hu := hus0 rfl
  subst hu
  clear hus0 hus hx2
  simp only [Option.isSome]
  go_wp2
  go_ret
  exact ⟨_, rfl, RowsAt.nil _, X2.out⟩
 | some xs =>
 obtain ⟨hmay, hlen, s, rfl, hst⟩ := Sp.snaps_may HO.out
 obtain ⟨vs, hvs, hrow, hall⟩ := hus _ rfl
 clear hus0 hus
 obtain ⟨AS, CS, rfl, hcs⟩ := hrow.form
 have hvl : vs.length = es.length + 1 := by rw [← hlen, ← hvs, List.length_map]
 obtain ⟨s0, vs', rfl⟩ : ∃ s0 vs', vs = s0 :: vs' := by
  cases vs with
  | nil => simp at hvl
  | cons a l => exact ⟨a, l, rfl⟩
 simp only [List.map_cons, List.cons.injEq] at hvs
 obtain ⟨hs0, hvs⟩ := hvs
 obtain ⟨y0, A0, c0, D0, d0⟩ := s0
 simp only at hs0
 subst hs0
 obtain ⟨bs, os, rfl, hbs, hr0, hsn0⟩ := sv_get (k := 0) (s := ⟨y0, A0, c0, D0, d0⟩) hrow hall rfl
 simp only at hr0 hsn0
 rw [Nat.zero_mul, Nat.add_zero] at hr0
 have HMAY := Lib.hid hmay
 have HROW := Lib.hid hrow
 have HALL := Lib.hid hall
 have HVS := Lib.hid hvs
 have HST := Lib.hid hst
 have HR0 := Lib.hid hr0
 have HSN := Lib.hid hsn0
 have HBS := Lib.hid hbs
 obtain ⟨nv0, hnv0⟩ : ∃ nv0, (({ x := y0, A := A0, c := c0, D := D0, d := d0 } : Sv) :: vs').length = nv0 := ⟨_, rfl⟩
 have HNV := Lib.hid hnv0
 rw [hnv0] at hvl ⊢
 have hnv1 : (0 : Int) < (nv0 : Int) := by omega
 have hnv2 : (nv0 : Int) ≤ 1001 := by omega
 have HVL := Lib.hid hvl
 obtain ⟨T, hT⟩ : ∃ T, ((y0 :: s).getLast (by simp)).time = T := ⟨_, rfl⟩
 have HT := Lib.hid hT
 have HFIN : Hid (Sp.fin T (Sp.rgo (Sp.lookP p) (fun _ => ByteArray.empty) es s (Sp.lookP p y0, [], (Sp.lookP p y0).map (Sp.opr y0.time ByteArray.empty))) = r) := Lib.hid (by rw [← HRR.out, ← hT]; exact (Sp.ofP_some HO.out).symm)
 clear hmay hrow hall hvs hst hr0 hsn0 hbs hnv0 hvl hT hlen hx2 HRR hcs
 simp only [Option.isSome]
 have x1 : w2.cell? ⟨X, 1, none⟩ = some (.slice A y0.ps.length c) := blk_cell HB2.out 1 _ rfl
 have hpsl : (y0.ps.length : Int) ≤ 10000 := by have := (sn_size (HMAY.out y0 (by simp))).1; omega
 by_cases hp1 : p < 1
 · obtain rfl : [] = r := by
    rw [← HFIN.out, lookP_off (by omega)]
    exact (rgo_off es s T fun y hy => lookP_off (by omega)).symm
   have e1 : decide (p < 1) = true := decide_eq_true hp1
   clear hp1
   go_wp2
   go_ret
   exact ⟨_, rfl, RowsAt.nil _, X2.out⟩
 have e1 : decide (p < 1) = false := decide_eq_false hp1
 by_cases hp2 : (y0.ps.length : Int) < p
 · obtain rfl : [] = r := by
    rw [← HFIN.out, lookP_off (by omega)]
    exact (rgo_off es s T fun y hy => lookP_off (by rw [steps_ps HST.out y hy]; omega)).symm
   have e2 : decide ((y0.ps.length : Int) < p) = true := decide_eq_true hp2
   clear hp1 hp2
   go_wp2
   go_ret
   exact ⟨_, rfl, RowsAt.nil _, X2.out⟩
 have e2 : decide ((y0.ps.length : Int) < p) = false := decide_eq_false hp2
 obtain ⟨q, hq⟩ : ∃ q : Nat, p = (q : Int) + 1 := ⟨(p - 1).toNat, by omega⟩
 have hpq : p - 1 = (q : Int) := by omega
 have hql : q < y0.ps.length := by omega
 have HPQ := Lib.hid hq
 have HQL := Lib.hid hql
 have HPS : Hid (∀ (k : Nat) (sv : Sv), (({ x := y0, A := A0, c := c0, D := D0, d := d0 } : Sv) :: vs')[k]? = some sv → sv.x.may = true ∧ sv.x.ps.length = y0.ps.length ∧ (y0 :: s)[k]? = some sv.x) := Lib.hid fun k sv hk => by
  have h1 : (y0 :: s)[k]? = some sv.x := by
   have h2 := congrArg (Option.map (·.x)) hk
   rw [← List.getElem?_map, List.map_cons, HVS.out] at h2
   exact h2
  have h2 := List.mem_of_getElem? h1
  refine ⟨HMAY.out _ h2, ?_, h1⟩
  rcases List.mem_cons.1 h2 with h3 | h3
  · rw [h3]
  · exact steps_ps HST.out _ h3
 clear hp1 hp2 hq hql
 go_upto_region 5 with fail
 obtain ⟨w3, hw3⟩ : ∃ w3, w2.alloc (.cells #[] 36) = w3 := ⟨_, rfl⟩
 have hx3 : Ext w2 w3 := by rw [← hw3]; exact (Ext.refl _).alloc _
 have HO0 : Hid (OuR w2 w3 (.slice (some ⟨w2.heap.size, 0, none⟩) 0 0) []) := Lib.hid ⟨by rw [← hw3]; exact ⟨rfl, .inr ⟨_, 0, _, rfl, Nat.le_refl _, blk_new w2 _, Nat.le_refl _, by decide, rfl, rfl⟩⟩, hx3⟩
 rw [hw3]
 clear hw3 hx3 x1 e1 e2
 go_wp2_with fail
 go_loopw [9, 10] (fun uv iv wr => ∃ (k : Nat) (l : List Sp), k ≤ nv0 ∧ iv = .int .i64 k ∧ OuR w2 wr uv l ∧ l.length ≤ k ∧ (k = 0 → l = []) ∧ (∀ (j : Nat) (y : Sn), k = j + 1 → (y0 :: s)[j]? = some y → ∃ done c1, l = done ++ [c1] ∧ c1.till = y.time ∧ Sp.fin T (Sp.rgo (Sp.lookP p) (fun _ => ByteArray.empty) (es.drop j) (s.drop j) (Sp.lookP p y, done, some c1)) = r)) (fun _ iv _ => nv0 - (intOf iv).toNat)
 case atStart => exact ⟨0, [], Nat.zero_le _, rfl, HO0.out, by simp, fun _ => rfl, fun j y h => by omega⟩
 case round =>
  obtain ⟨k, l, hk, rfl, ho, hll, hl0, hl1⟩ := hrel
  have HS1 := Lib.hid ho
  have HLL := Lib.hid hll
  have HL0 := Lib.hid hl0
  have HL1 := Lib.hid hl1
  clear ho hll hl0 hl1
  by_cases hlt : k < nv0
  · obtain ⟨sv, hsv⟩ : ∃ sv, (({ x := y0, A := A0, c := c0, D := D0, d := d0 } : Sv) :: vs')[k]? = some sv := ⟨_, List.getElem?_eq_getElem (by rw [HNV.out]; exact hlt)⟩
    obtain ⟨hmy, hpl, hys⟩ := HPS.out k sv hsv
    have hsa := HALL.out sv (List.mem_of_getElem? hsv)
    obtain ⟨y, Ay, cy, Dy, dy⟩ := sv
    simp only at hmy hpl hys
    obtain ⟨pq, hpq'⟩ : ∃ pq, y.ps[q]? = some pq := ⟨_, List.getElem?_eq_getElem (by have := HQL.out; omega)⟩
    have hpm := may_pm hmy hpq'
    obtain ⟨b', o', hb', -, hry, -⟩ := sv_get HROW.out HALL.out hsv
    simp only [Option.some.injEq, Addr.mk.injEq, and_true] at hb'
    obtain ⟨hb1, hb2⟩ := hb'
    subst hb1 hb2
    simp only at hry
    obtain ⟨bp, op, hBP, hbp, hcp⟩ := RowsAt.get hsa.1 hpq'
    simp only at hBP
    subst hBP
    obtain ⟨pm, psq⟩ := pq
    simp only at hpm
    have HLP : Hid (Sp.lookP p y = some (pmV pm)) := Lib.hid (lookP_in HPQ.out hpq')
    have HOP : Hid (Sp.opr y.time ByteArray.empty (pmV pm) = (⟨y.time, y.time, (if 1 < pm then 1 else pm), pm, ByteArray.empty⟩ : Sp)) := Lib.hid (opr_pm hpm)
    have HRY : Hid (∀ v, Ext w2 v → v.cell? ⟨bs, os + k * 3, none⟩ = some (.int .i64 y.time) ∧ v.cell? ⟨bs, os + k * 3 + 1, none⟩ = some (.slice (some ⟨bp, op, none⟩) y.ps.length cy)) := Lib.hid fun v hv => ⟨by have := hry v hv 0 _ rfl; rwa [Nat.add_zero] at this, hry v hv 1 _ rfl⟩
    have HPM : Hid (∀ v, Ext w2 v → v.cell? ⟨bp, op + q * 2, none⟩ = some (.int .i64 pm)) := Lib.hid fun v hv => (Below.cell (p := ⟨bp, op + q * 2, none⟩) hv hbp).trans (by have := hcp 0 _ rfl; rwa [Nat.add_zero] at this)
    have HYS := Lib.hid hys
    have hq0 : (0 : Int) ≤ (q : Int) := by omega
    have hqb : (q : Int) < (y.ps.length : Int) := by have := HQL.out; omega
    have hqw : IntKind.i64.wrap (q : Int) = (q : Int) := IntWalk.i64_in _ (by have := HQL.out; omega)
    have hkb : (k : Int) < (nv0 : Int) := by omega
    have k0 := (HRY.out _ HS1.out.ext).1
    have k1 := (HRY.out _ HS1.out.ext).2
    have k2 := HPM.out _ HS1.out.ext
    clear hsv hmy hpl hys hsa hpq' hry hbp hcp
    by_cases hk0 : k = 0
    · have hl := HL0.out hk0
      subst hl
      have HY0 : Hid (y = y0) := Lib.hid (by have := HYS.out; rw [hk0] at this; simpa using this.symm)
      have kd : (0 < k) = False := eq_false (by omega)
      have ke : ((k : Int) == 0) = true := by rw [hk0]; rfl
      have HK0 := Lib.hid hk0
      clear hk0
      have HLN : Hid (([] : List Sp).length ≤ 1000000) := Lib.hid (by simp)
      go_upto_region 12 with fail
      clear k0 k1 k2
      have HCX : Hid (∀ v, Ext wr v → v.cell? ⟨bs, os + k * 3, none⟩ = some (.int .i64 y.time)) := Lib.hid fun v hv => (HRY.out v (HS1.out.ext.trans hv)).1
      go_wp2_with fail
      refine region_gq 16 (fun v => v.cell? ⟨bs, os + k * 3, none⟩ = some (.int .i64 y.time)) (fun v => Ext wr v) (by kernel_rfl) (Ext.refl wr).drew (fun _ _ d _ _ h => by cases d <;> exact h) ?_
      intro Q9 HQE HQP
      have HG : ∀ (l : Array Bool) (v : World), Ext wr v → l.getD 16 false = false → v.cell? ⟨bs, os + k * 3, none⟩ = some (.int .i64 y.time) := fun _ v hx _ => HCX.out v hx
      refine g_tk 0 (v := ?_) HG HQP (fun w hS => ?_) ?_
      rotate_left 1
      · go_simp; refine gives_mk ?_ rfl; with_reducible rfl
      refine g_tk 1 (v := ?_) HG HQP (fun w hS => ?_) ?_
      rotate_left 1
      · go_simp; refine gives_mk ?_ rfl; with_reducible rfl
      refine g_tk 2 (v := ?_) HG HQP (fun w hS => ?_) ?_
      rotate_left 1
      · go_simp; refine gives_mk ?_ rfl; with_reducible rfl
      refine g_tk 3 (v := ?_) HG HQP (fun w hS => ?_) ?_
      rotate_left 1
      · go_simp; refine gives_mk ?_ rfl; with_reducible rfl
      refine g_tk 4 (v := ?_) HG HQP (fun w hS => ?_) ?_
      rotate_left 1
      · go_simp; refine gives_mk ?_ rfl; with_reducible rfl
      refine g_tk 5 (v := ?_) HG HQP (fun w hS => ?_) ?_
      rotate_left 1
      · go_simp; refine gives_mk ?_ rfl; with_reducible rfl
      refine g_tk 6 (v := ?_) HG HQP (fun w hS => ?_) ?_
      rotate_left 1
      · go_simp; refine gives_mk ?_ rfl; with_reducible rfl
      refine g_tk 7 (v := ?_) HG HQP (fun w hS => ?_) ?_
      rotate_left 1
      · go_simp; refine gives_mk ?_ rfl; with_reducible rfl
      refine g_tk 8 (v := ?_) HG HQP (fun w hS => ?_) ?_
      rotate_left 1
      · go_simp; refine gives_mk ?_ rfl; with_reducible rfl
      refine g_tk 9 (v := ?_) HG HQP (fun w hS => ?_) ?_
      rotate_left 1
      · go_simp; refine gives_mk ?_ rfl; with_reducible rfl
      refine g_tk 10 (v := ?_) HG HQP (fun w hS => ?_) ?_
      rotate_left 1
      · go_simp; refine gives_mk ?_ rfl; with_reducible rfl
      refine g_tk 11 (v := ?_) HG HQP (fun w hS => ?_) ?_
      rotate_left 1
      · go_simp; refine gives_mk ?_ rfl; with_reducible rfl
      refine g_tk 12 (v := ?_) HG HQP (fun w hS => ?_) ?_
      rotate_left 1
      · go_simp; refine gives_mk ?_ rfl; with_reducible rfl
      refine g_tk 13 (v := ?_) HG HQP (fun w hS => ?_) ?_
      rotate_left 1
      · go_simp; refine gives_mk ?_ rfl; with_reducible rfl
      refine g_tk 14 (v := ?_) HG HQP (fun w hS => ?_) ?_
      rotate_left 1
      · go_simp; refine gives_mk ?_ rfl; with_reducible rfl
      refine g_mid (fun u v => ∃ v5, u = .slice (some ⟨v5.heap.size, 0, none⟩) 1 1 ∧ v = v5.alloc (.cells (spL (⟨y.time, y.time, (if 1 < pm then 1 else pm), pm, ByteArray.empty⟩ : Sp)).toArray 36) ∧ Ext wr v5) (k := 15) (by kernel_rfl) (fun _ v hh _ => by obtain ⟨v5, _, rfl, hx⟩ := hh; exact HCX.out _ (hx.alloc _)) rfl (by kernel_rfl) (fun v hS R hR => ?_) (fun u hu => ?_)
      · have HR := Lib.hid hR
        clear hR
        go_simp
        refine givesM_val (HR.out _ _ ⟨v, rfl, by first | rfl | (rw [pm_min]; rfl), hS⟩)
      obtain ⟨_, w5, rfl, -, -⟩ := hu
      generalize w5.heap.size = V5
      clear w5
      refine g_mid (fun u v => OuR w2 v u ([] ++ [(⟨y.time, y.time, (if 1 < pm then 1 else pm), pm, ByteArray.empty⟩ : Sp)])) (k := 16) (by kernel_rfl) (fun v w _ h0 => by cases h0) rfl (by kernel_rfl) (fun v hS R hR => ?_) (fun u hu => ?_)
      · have HR := Lib.hid hR
        clear hR
        obtain ⟨v5, hV, hv, hx⟩ := hS
        simp only [Value.slice.injEq, Option.some.injEq, Addr.mk.injEq, and_true] at hV
        subst hV hv
        obtain ⟨un, wn, hr1, hs1, -⟩ := (HS1.out.more hx).push (⟨y.time, y.time, (if 1 < pm then 1 else pm), pm, ByteArray.empty⟩ : Sp) HLN.out
        refine givesM_append _ _ 27 rfl _ _ (by go_simp) (by go_simp) hr1 ?_
        exact HR.out _ _ hs1
      obtain ⟨_, hu9⟩ := hu
      refine g_end (k := 17) (by kernel_rfl) (by kernel_rfl) (by kernel_rfl) rfl (by kernel_rfl) (fun w9 hS R hR => ?_)
      have HR := Lib.hid hR
      clear hR hu9
      have HS9 := Lib.hid hS
      have hq9 := HQE.out
      subst hq9
      clear HQE HQP HG HCX hS
      go_simp
      refine givesM_val (HR.out _ _ ?_)
      go_simp
      go_wp2
      go_roundw
      case rel =>
       refine ⟨k + 1, _, by omega, by go_num, HS9.out, by simp, fun h => by omega, fun j' y' hj' hy' => ⟨[], _, rfl, ?_, ?_⟩⟩
       · have e1 : j' = 0 := by have := HK0.out; omega
         subst e1
         simp only [List.getElem?_cons_zero, Option.some.injEq] at hy'
         simp only
         rw [HY0.out, hy']
       · have e1 : j' = 0 := by have := HK0.out; omega
         subst e1
         simp only [List.getElem?_cons_zero, Option.some.injEq] at hy'
         have h := HFIN.out
         have h2 := HLP.out
         have h3 := HOP.out
         rw [HY0.out] at h2 h3
         rw [h2] at h
         simp only [Option.map_some, h3] at h
         rw [← hy', h2, HY0.out]
         exact h
      case measure => simp [intOf]; omega
    · obtain ⟨j, hj⟩ : ∃ j, k = j + 1 := ⟨k - 1, by omega⟩
      have hjl : j < es.length := by have := HVL.out; omega
      obtain ⟨svp, hsvp⟩ : ∃ sv, (({ x := y0, A := A0, c := c0, D := D0, d := d0 } : Sv) :: vs')[j]? = some sv := ⟨_, List.getElem?_eq_getElem (by rw [HNV.out]; omega)⟩
      obtain ⟨hmyp, hplp, hysp⟩ := HPS.out j svp hsvp
      have hsap := HALL.out svp (List.mem_of_getElem? hsvp)
      obtain ⟨yp, Ayp, cyp, Dyp, dyp⟩ := svp
      simp only at hmyp hplp hysp
      obtain ⟨pqp, hpqp⟩ : ∃ pq, yp.ps[q]? = some pq := ⟨_, List.getElem?_eq_getElem (by have := HQL.out; omega)⟩
      obtain ⟨b', o', hb', -, hryp, -⟩ := sv_get HROW.out HALL.out hsvp
      simp only [Option.some.injEq, Addr.mk.injEq, and_true] at hb'
      obtain ⟨hb1, hb2⟩ := hb'
      subst hb1 hb2
      simp only at hryp
      obtain ⟨bpp, opp, hBPp, hbpp, hcpp⟩ := RowsAt.get hsap.1 hpqp
      simp only at hBPp
      subst hBPp
      obtain ⟨pmp, psqp⟩ := pqp
      have HLPP : Hid (Sp.lookP p yp = some (pmV pmp)) := Lib.hid (lookP_in HPQ.out hpqp)
      have HCP : Hid (∀ v, Ext w2 v → v.cell? ⟨bs, os + j * 3 + 1, none⟩ = some (.slice (some ⟨bpp, opp, none⟩) yp.ps.length cyp) ∧ v.cell? ⟨bpp, opp + q * 2, none⟩ = some (.int .i64 pmp)) := Lib.hid fun v hv => ⟨hryp v hv 1 _ rfl, (Below.cell (p := ⟨bpp, opp + q * 2, none⟩) hv hbpp).trans (by have := hcpp 0 _ rfl; rwa [Nat.add_zero] at this)⟩
      obtain ⟨e, he⟩ : ∃ e, es[j]? = some e := ⟨_, List.getElem?_eq_getElem hjl⟩
      have hsj : s[j]? = some y := by have := HYS.out; rw [hj, List.getElem?_cons_succ] at this; exact this
      obtain ⟨done, c1, hl, -, hfin⟩ := HL1.out j yp hj hysp
      subst hl
      rw [drop_cons he, drop_cons hsj] at hfin
      unfold Sp.rgo Sp.rstep at hfin
      rw [HLP.out, HLPP.out] at hfin
      simp only [Option.map_some, Option.toList_some, HOP.out] at hfin
      have HFJ := Lib.hid hfin
      have HKJ := Lib.hid hj
      obtain ⟨gb, cg, hu, hgl, hcell, hfz, hupd, hown, hse⟩ := OuR.ends (done := done) (s := c1) HS1.out y.time
      subst hu
      obtain ⟨n, hn⟩ : ∃ n, done.length = n := ⟨_, rfl⟩
      rw [hn] at hcell hfz hse hupd ⊢
      obtain ⟨wg, hwg⟩ : ∃ wg, wr.setCell ⟨gb, n * 5 + 1, none⟩ (.int .i64 y.time) = wg := ⟨_, rfl⟩
      rw [hwg] at hse hupd
      have HSE := Lib.hid hse
      have HWG := Lib.hid hwg
      have HDL : Hid ((done ++ [Sp.close y.time c1]).length ≤ k) := Lib.hid (by have := HLL.out; simpa using this)
      have HLN : Hid ((done ++ [Sp.close y.time c1]).length ≤ 1000000) := Lib.hid (by have := HDL.out; omega)
      have en : (n : Int) + 1 - 1 = (n : Int) := by omega
      have hnk : (n : Int) ≤ 1001 := by have h1 := HLL.out; simp at h1; omega
      have kd : (0 < k) = True := eq_true (by omega)
      have ke : ((k : Int) == 0) = false := by simp; omega
      have hkj : (k : Int) - 1 = (j : Int) := by omega
      have hj0 : (0 : Int) ≤ (j : Int) := by omega
      have hjb : (j : Int) < (nv0 : Int) := by omega
      have hqbp : (q : Int) < (yp.ps.length : Int) := by have := HQL.out; omega
      have p1 := (HCP.out _ hse.ext).1
      have p2 := (HCP.out _ hse.ext).2
      clear hk0 hj hjl hsvp hmyp hplp hysp hsap hpqp hryp hbpp hcpp he hsj hfin hgl hupd hown hse hwg hn
      go_upto_region 11 with fail
      rw [HWG.out]
      clear k1 k2 k0 hcell hfz
      by_cases hm : pm = pmp
      · have em : (pm != pmp) = false := by simp [hm]
        have HFQ : Hid (Sp.fin T (Sp.rgo (Sp.lookP p) (fun _ => ByteArray.empty) (es.drop (j + 1)) (s.drop (j + 1)) (some (pmV pm), done, some (Sp.close y.time c1))) = r) := Lib.hid (by
         have h := HFJ.out
         rw [if_pos (by rw [hm]), if_pos (by rw [hm])] at h
         exact h)
        clear hm
        go_wp2
        go_roundw
        case rel =>
         refine ⟨k + 1, _, by omega, by go_num, HSE.out, by have := HDL.out; omega, fun h => by omega, fun j' y' hj' hy' => ⟨done, _, rfl, ?_, ?_⟩⟩
         · have e1 : j' = k := by omega
           subst e1
           rw [HYS.out, Option.some.injEq] at hy'
           subst hy'
           rfl
         · have e1 : j' = k := by omega
           subst e1
           rw [HYS.out, Option.some.injEq] at hy'
           subst hy'
           rw [HLP.out]
           have h := HFQ.out
           rw [← HKJ.out] at h
           exact h
        case measure => simp [intOf]; omega
      · have em : (pm != pmp) = true := by simp [hm]
        have HFQ : Hid (Sp.fin T (Sp.rgo (Sp.lookP p) (fun _ => ByteArray.empty) (es.drop (j + 1)) (s.drop (j + 1)) (some (pmV pm), done ++ [Sp.close y.time c1], some (⟨y.time, y.time, (if 1 < pm then 1 else pm), pm, ByteArray.empty⟩ : Sp))) = r) := Lib.hid (by
         have h := HFJ.out
         have e1 : some (pmV pm) ≠ some (pmV pmp) := fun h => hm (pmV_inj (Option.some.inj h))
         rw [if_neg e1, if_neg e1] at h
         exact h)
        clear hm
        go_upto_region 12 with fail
        clear p1 p2
        have HCX : Hid (∀ v, Ext wg v → v.cell? ⟨bs, os + k * 3, none⟩ = some (.int .i64 y.time)) := Lib.hid fun v hv => (HRY.out v (HSE.out.ext.trans hv)).1
        go_wp2_with fail
        refine region_gq 16 (fun v => v.cell? ⟨bs, os + k * 3, none⟩ = some (.int .i64 y.time)) (fun v => Ext wg v) (by kernel_rfl) (Ext.refl wg).drew (fun _ _ d _ _ h => by cases d <;> exact h) ?_
        intro Q9 HQE HQP
        have HG : ∀ (l : Array Bool) (v : World), Ext wg v → l.getD 16 false = false → v.cell? ⟨bs, os + k * 3, none⟩ = some (.int .i64 y.time) := fun _ v hx _ => HCX.out v hx
        refine g_tk 0 (v := ?_) HG HQP (fun w hS => ?_) ?_
        rotate_left 1
        · go_simp; refine gives_mk ?_ rfl; with_reducible rfl
        refine g_tk 1 (v := ?_) HG HQP (fun w hS => ?_) ?_
        rotate_left 1
        · go_simp; refine gives_mk ?_ rfl; with_reducible rfl
        refine g_tk 2 (v := ?_) HG HQP (fun w hS => ?_) ?_
        rotate_left 1
        · go_simp; refine gives_mk ?_ rfl; with_reducible rfl
        refine g_tk 3 (v := ?_) HG HQP (fun w hS => ?_) ?_
        rotate_left 1
        · go_simp; refine gives_mk ?_ rfl; with_reducible rfl
        refine g_tk 4 (v := ?_) HG HQP (fun w hS => ?_) ?_
        rotate_left 1
        · go_simp; refine gives_mk ?_ rfl; with_reducible rfl
        refine g_tk 5 (v := ?_) HG HQP (fun w hS => ?_) ?_
        rotate_left 1
        · go_simp; refine gives_mk ?_ rfl; with_reducible rfl
        refine g_tk 6 (v := ?_) HG HQP (fun w hS => ?_) ?_
        rotate_left 1
        · go_simp; refine gives_mk ?_ rfl; with_reducible rfl
        refine g_tk 7 (v := ?_) HG HQP (fun w hS => ?_) ?_
        rotate_left 1
        · go_simp; refine gives_mk ?_ rfl; with_reducible rfl
        refine g_tk 8 (v := ?_) HG HQP (fun w hS => ?_) ?_
        rotate_left 1
        · go_simp; refine gives_mk ?_ rfl; with_reducible rfl
        refine g_tk 9 (v := ?_) HG HQP (fun w hS => ?_) ?_
        rotate_left 1
        · go_simp; refine gives_mk ?_ rfl; with_reducible rfl
        refine g_tk 10 (v := ?_) HG HQP (fun w hS => ?_) ?_
        rotate_left 1
        · go_simp; refine gives_mk ?_ rfl; with_reducible rfl
        refine g_tk 11 (v := ?_) HG HQP (fun w hS => ?_) ?_
        rotate_left 1
        · go_simp; refine gives_mk ?_ rfl; with_reducible rfl
        refine g_tk 12 (v := ?_) HG HQP (fun w hS => ?_) ?_
        rotate_left 1
        · go_simp; refine gives_mk ?_ rfl; with_reducible rfl
        refine g_tk 13 (v := ?_) HG HQP (fun w hS => ?_) ?_
        rotate_left 1
        · go_simp; refine gives_mk ?_ rfl; with_reducible rfl
        refine g_tk 14 (v := ?_) HG HQP (fun w hS => ?_) ?_
        rotate_left 1
        · go_simp; refine gives_mk ?_ rfl; with_reducible rfl
        refine g_mid (fun u v => ∃ v5, u = .slice (some ⟨v5.heap.size, 0, none⟩) 1 1 ∧ v = v5.alloc (.cells (spL (⟨y.time, y.time, (if 1 < pm then 1 else pm), pm, ByteArray.empty⟩ : Sp)).toArray 36) ∧ Ext wg v5) (k := 15) (by kernel_rfl) (fun _ v hh _ => by obtain ⟨v5, _, rfl, hx⟩ := hh; exact HCX.out _ (hx.alloc _)) rfl (by kernel_rfl) (fun v hS R hR => ?_) (fun u hu => ?_)
        · have HR := Lib.hid hR
          clear hR
          go_simp
          refine givesM_val (HR.out _ _ ⟨v, rfl, by first | rfl | (rw [pm_min]; rfl), hS⟩)
        obtain ⟨_, w5, rfl, -, -⟩ := hu
        generalize w5.heap.size = V5
        clear w5
        refine g_mid (fun u v => OuR w2 v u ((done ++ [Sp.close y.time c1]) ++ [(⟨y.time, y.time, (if 1 < pm then 1 else pm), pm, ByteArray.empty⟩ : Sp)])) (k := 16) (by kernel_rfl) (fun v w _ h0 => by cases h0) rfl (by kernel_rfl) (fun v hS R hR => ?_) (fun u hu => ?_)
        · have HR := Lib.hid hR
          clear hR
          obtain ⟨v5, hV, hv, hx⟩ := hS
          simp only [Value.slice.injEq, Option.some.injEq, Addr.mk.injEq, and_true] at hV
          subst hV hv
          obtain ⟨un, wn, hr1, hs1, -⟩ := (HSE.out.more hx).push (⟨y.time, y.time, (if 1 < pm then 1 else pm), pm, ByteArray.empty⟩ : Sp) HLN.out
          refine givesM_append _ _ 27 rfl _ _ (by go_simp) (by go_simp) hr1 ?_
          exact HR.out _ _ hs1
        obtain ⟨_, hu9⟩ := hu
        refine g_end (k := 17) (by kernel_rfl) (by kernel_rfl) (by kernel_rfl) rfl (by kernel_rfl) (fun w9 hS R hR => ?_)
        have HR := Lib.hid hR
        clear hR hu9
        have HS9 := Lib.hid hS
        have hq9 := HQE.out
        subst hq9
        clear HQE HQP HG HCX hS
        go_simp
        refine givesM_val (HR.out _ _ ?_)
        go_simp
        go_wp2
        go_roundw
        case rel =>
         refine ⟨k + 1, _, by omega, by go_num, HS9.out, by have := HDL.out; simp at this ⊢; omega, fun h => by omega, fun j' y' hj' hy' => ⟨done ++ [Sp.close y.time c1], _, rfl, ?_, ?_⟩⟩
         · have e1 : j' = k := by omega
           subst e1
           rw [HYS.out, Option.some.injEq] at hy'
           subst hy'
           rfl
         · have e1 : j' = k := by omega
           subst e1
           rw [HYS.out, Option.some.injEq] at hy'
           subst hy'
           rw [HLP.out]
           have h := HFQ.out
           rw [← HKJ.out] at h
           exact h
        case measure => simp [intOf]; omega
  · obtain rfl : k = nv0 := by omega
    have HFE : Hid (l = r) := Lib.hid (by
     have hkl := HVL.out
     have hnn := HNV.out
     have hys : (y0 :: s)[es.length]? = some ((y0 :: s).getLast (by simp)) := by
      rw [List.getLast_eq_getElem, List.getElem?_eq_some_iff]
      have h3 : (y0 :: s).length - 1 = es.length := by rw [← HVS.out]; simp only [List.length_cons, List.length_map] at hnn ⊢; omega
      refine ⟨by simp only [List.length_cons] at h3 ⊢; omega, by simp only [h3]⟩
     obtain ⟨done, c1, hl, ht, hf⟩ := HL1.out es.length _ hkl hys
     rw [List.drop_length] at hf
     unfold Sp.rgo Sp.fin at hf
     rw [HT.out] at ht
     rw [← hf, hl]
     simp only [Option.map_some, Option.toList_some]
     unfold Sp.close
     rw [← ht])
    have HRW : Hid (RowsAt 5 spL wr u9 r) := Lib.hid (by have h := HS1.out.own.rows spL_len; rw [← HFE.out]; exact h)
    have HXF := Lib.hid (X2.out.trans HS1.out.ext)
    go_wp2
    go_ret
    exact ⟨_, rfl, HRW.out, HXF.out⟩
def dgs (n : Nat) : ByteArray := ⟨(Lib.decDigits n).toArray⟩
theorem dg_len {m n : Nat} {l : List UInt8} (h : m * 10 ^ l.length ≤ n) (hm : 0 < m) (hn : n < 18446744073709551616) : l.length ≤ 20 := by
 apply Nat.le_of_not_lt
 intro hk
 have h1 : 10 ^ 20 ≤ 10 ^ l.length := Nat.pow_le_pow_right (by decide) (by omega)
 have h2 : 1 * 10 ^ l.length ≤ m * 10 ^ l.length := Nat.mul_le_mul_right _ hm
 have h3 : (10 : Nat) ^ 20 = 100000000000000000000 := by decide
 omega
theorem dg_one {d : Nat} (h : d < 10) (l : List UInt8) : (⟨#[48, 49, 50, 51, 52, 53, 54, 55, 56, 57]⟩ : ByteArray).extract d (d + 1) ++ ⟨l.toArray⟩ = ⟨(UInt8.ofNat (48 + d) :: l).toArray⟩ := by
 have e0 : ∀ d : Fin 10, (⟨#[48, 49, 50, 51, 52, 53, 54, 55, 56, 57]⟩ : ByteArray).extract d.val (d.val + 1) = ⟨#[UInt8.ofNat (48 + d.val)]⟩ := by decide +kernel
 have e := e0 ⟨d, h⟩
 simp only at e
 rw [e]
 apply ByteArray.ext
 simp
theorem dgs_size {n : Nat} (hn : n < 18446744073709551616) : (dgs n).size ≤ 20 := by
 have key : ∀ (k m : Nat), m < 10 ^ (k + 1) → (Lib.decDigits m).length ≤ k + 1 := by
  intro k
  induction k with
  | zero => intro m hm; rw [Lib.decDigits, dif_pos (by simpa using hm)]; simp
  | succ k ih =>
   intro m hm
   rw [Lib.decDigits]
   split
   · simp
   · rw [List.length_append, List.length_singleton]
     have := ih (m / 10) (by rw [Nat.pow_succ] at hm; omega)
     omega
 have := key 19 n (Nat.lt_of_lt_of_le hn (by decide))
 simpa [dgs, ByteArray.size] using this
set_option maxRecDepth 100000 in
set_option maxHeartbeats 4000000 in
theorem rdigits_any (n : Nat) (hn : n < 18446744073709551616) (w : World) :
    Calls Tryd.prog 40 #[.int .u64 n] w fun e w' => e = .returned (.string (dgs n)) ∧ Ext w w' := by
 obtain ⟨r, hr⟩ : ∃ r, Lib.decDigits n = r := ⟨_, rfl⟩
 have HR := Lib.hid hr
 have HNN := Lib.hid hn
 unfold dgs
 rw [hr]
 clear hr
 go_enter Tryd.func40, Tryd.ntmps40
 go_wp2_with fail
 go_loopw [0, 3] (fun nv sv wr => ∃ (m : Nat) (l : List UInt8), m < 18446744073709551616 ∧ nv = .int .u64 m ∧ sv = .string ⟨l.toArray⟩ ∧ Hid (Lib.decDigits m ++ l = r) ∧ (l = [] ∨ 0 < m) ∧ Hid (m * 10 ^ l.length ≤ n) ∧ Ext w wr) (fun nv _ _ => (intOf nv).toNat)
 case atStart => exact ⟨n, [], hn, rfl, rfl, Lib.hid (by rw [List.append_nil]; exact HR.out), .inl rfl, Lib.hid (by simp), Ext.refl _⟩
 case round =>
  obtain ⟨m, l, hm, rfl, rfl, HL, hmp, HP, hx⟩ := hrel
  have HX := Lib.hid hx
  have hll : l.length ≤ 20 := by
   rcases hmp with rfl | hmp
   · simp
   · exact dg_len HP.out hmp HNN.out
  clear hx hmp
  have HD := Lib.hid (dg_one (Nat.mod_lt m (by decide : 0 < 10)) l)
  by_cases hlt : 9 < m
  · have HDD : Hid (Lib.decDigits m = Lib.decDigits (m / 10) ++ [UInt8.ofNat (48 + m % 10)]) := Lib.hid (by rw [Lib.decDigits, dif_neg (by omega)])
    have HPP : Hid (m / 10 * 10 ^ (l.length + 1) ≤ n) := Lib.hid (by
     have h1 := HP.out
     have h2 : m / 10 * 10 ^ (l.length + 1) = m / 10 * 10 * 10 ^ l.length := by rw [Nat.pow_succ, Nat.mul_assoc, Nat.mul_comm (10 ^ l.length) 10]
     rw [h2]
     exact Nat.le_trans (Nat.mul_le_mul_right _ (Nat.div_mul_le_self m 10)) h1)
    have hc1 : ¬ 9223372036854775807 < min (m % 10 + 1) 10 - m % 10 + l.length := by omega
    go_wp2
    go_roundw
    case rel => exact ⟨m / 10, UInt8.ofNat (48 + m % 10) :: l, by omega, by go_num, by rw [← HD.out] <;> rfl, Lib.hid (by rw [← HL.out, HDD.out, List.append_assoc]; rfl), .inr (by omega), by simpa using HPP, HX.out⟩
    case measure => simp [intOf]; omega
  · have HDD : Hid ((⟨(UInt8.ofNat (48 + m) :: l).toArray⟩ : ByteArray) = ⟨r.toArray⟩) := Lib.hid (by rw [← HL.out, Lib.decDigits, dif_pos (by omega)]; rfl)
    have HD2 := Lib.hid (dg_one (d := m) (by omega) l)
    have hc1 : ¬ 9223372036854775807 < min (m + 1) 10 - m + l.length := by omega
    go_wp2
    go_ret
    exact ⟨by rw [← HDD.out, ← HD2.out] <;> rfl, HX.out⟩
set_option maxRecDepth 100000 in
set_option maxHeartbeats 4000000 in
theorem rsigned_any (n : Int) (h0 : -9223372036854775808 ≤ n) (h1 : n ≤ 9223372036854775807) (w : World) :
    Calls Tryd.prog 30 #[.int .i64 n] w fun e w' => e = .returned (.string ⟨(Lib.itoa n).toArray⟩) ∧ Ext w w' := by
 obtain ⟨r, hr⟩ : ∃ r : ByteArray, ⟨(Lib.itoa n).toArray⟩ = r := ⟨_, rfl⟩
 have HR := Lib.hid hr
 rw [hr]
 clear hr
 go_enter Tryd.func30, Tryd.ntmps30
 by_cases hn : n < 0
 · obtain ⟨m, hm⟩ : ∃ m : Nat, n.natAbs = m := ⟨_, rfl⟩
   have HN : Hid (⟨#[45]⟩ ++ dgs m = r) := Lib.hid (by
    rw [← HR.out, ← hm]
    unfold Lib.itoa dgs
    rw [if_pos hn]
    apply ByteArray.ext
    simp)
   have e : -(n + 1) + 1 = (m : Int) := by omega
   go_wp2_with fail
   refine (rdigits_any _ (by omega) w).mono ?_
   rintro e w2 ⟨rfl, hx2⟩
   have HX := Lib.hid hx2
   have hsz : (dgs m).size ≤ 20 := dgs_size (by omega)
   clear hx2
   go_wp2
   go_ret
   exact ⟨by rw [← HN.out] <;> rfl, HX.out⟩
 · obtain ⟨m, rfl⟩ : ∃ m : Nat, n = (m : Int) := ⟨n.toNat, by omega⟩
   have HN : Hid (dgs m = r) := Lib.hid (by
    rw [← HR.out]
    unfold Lib.itoa dgs
    rw [if_neg hn, Int.toNat_natCast])
   go_wp2_with fail
   refine (rdigits_any m (by omega) w).mono ?_
   rintro e w2 ⟨rfl, hx2⟩
   have HX := Lib.hid hx2
   clear hx2
   go_wp2
   go_ret
   exact ⟨by rw [← HN.out] <;> rfl, HX.out⟩
theorem tx_snoc (l : List Sp) (s : Sp) : Sp.text (l ++ [s]) = (if l = [] then Sp.text l else Sp.text l ++ ⟨#[32]⟩) ++ s.word := by
 unfold Sp.text
 cases l with
 | nil =>
  rw [if_pos rfl]
  apply ByteArray.ext
  simp [Lib.join, List.intercalate]
 | cons x r =>
  rw [if_neg (by simp)]
  simp only [List.cons_append, List.map_cons, List.map_append, Lib.join_cons, List.map_nil]
  unfold Lib.joinTail
  apply ByteArray.ext
  simp
theorem tx_size {l : List Sp} (h : ∀ s ∈ l, TxIn s) : (Sp.text l).size ≤ l.length * 1101 := by
 have h1 := join_len [32] 1100 (l.map fun s => s.word.data.toList) (fun z hz => by
  obtain ⟨x, hx, rfl⟩ := List.mem_map.1 hz
  have := word_size (h x hx)
  rw [Array.length_toList]
  exact this)
 rw [List.length_map] at h1
 have e : (Sp.text l).size = (Lib.join (l.map fun s => s.word.data.toList) [32]).length := by simp [Sp.text, ByteArray.size]
 rw [e]
 simpa using h1
theorem tx_bytes_list {s : ByteArray} (h : ¬ s = ⟨#[]⟩) : s.toList.isEmpty = false ∧ ¬ s.toList = [] := by
 have h1 : ¬ s.toList = [] := fun e => h (by
  obtain ⟨⟨l⟩⟩ := s
  rw [ByteArray.toList_eq] at e
  simp only at e
  rw [e])
 exact ⟨by simpa using h1, h1⟩
set_option maxRecDepth 100000 in
set_option maxHeartbeats 8000000 in
theorem rltext_any (v : Value) (l : List Sp) (w : World) (h : RowsAt 5 spL w v l) (hl : l.length ≤ 1000) (hin : ∀ s ∈ l, TxIn s) (r : ByteArray) (hr : Sp.text l = r) :
    Calls Tryd.prog 16 #[v] w fun e w' => e = .returned (.string r) ∧ Ext w w' := by
 obtain ⟨A, c, rfl, -⟩ := h.form
 have H := Lib.hid h
 have HIN := Lib.hid hin
 have HRR := Lib.hid hr
 have hl' : (l.length : Int) ≤ 1000 := by omega
 clear h hin hr
 go_enter Tryd.func16, Tryd.ntmps16
 go_wp2_with fail
 go_loopw [3, 4] (fun uv iv wr => ∃ k : Nat, k ≤ l.length ∧ iv = .int .i64 k ∧ uv = .string (Sp.text (l.take k)) ∧ Ext w wr) (fun _ iv _ => l.length - (intOf iv).toNat)
 case atStart => exact ⟨0, Nat.zero_le _, rfl, rfl, Ext.refl _⟩
 case round =>
  obtain ⟨k, hk, rfl, rfl, hx⟩ := hrel
  have HX := Lib.hid hx
  clear hx
  by_cases hlt : k < l.length
  · obtain ⟨s, hs⟩ : ∃ s, l[k]? = some s := ⟨_, List.getElem?_eq_getElem hlt⟩
    have HTX := Lib.hid (HIN.out s (List.mem_of_getElem? hs))
    have htk : Sp.text (l.take (k + 1)) = (if l.take k = [] then Sp.text (l.take k) else Sp.text (l.take k) ++ ⟨#[32]⟩) ++ s.word := by rw [List.take_add_one, hs]; exact tx_snoc _ _
    obtain ⟨a, ha⟩ : ∃ a, Sp.text (l.take k) = a := ⟨_, rfl⟩
    have hsa : a.size ≤ 1101000 := by
     rw [← ha]
     have h1 := tx_size (l := l.take k) (fun s hs => HIN.out s (List.mem_of_mem_take hs))
     rw [List.length_take] at h1
     have h2 : min k l.length * 1101 ≤ 1000 * 1101 := Nat.mul_le_mul_right _ (by omega)
     omega
    rw [ha] at htk ⊢
    clear ha
    obtain ⟨b, o, hB, hb, hc⟩ := (H.out.ext HX.out).get hs
    subst hB
    obtain ⟨sf, sl, ss, sn, sw⟩ := s
    have HCL : Hid (∀ v, Ext wr v → v.cell? ⟨b, o + k * 5, none⟩ = some (.int .i64 sf) ∧ v.cell? ⟨b, o + k * 5 + 1, none⟩ = some (.int .i64 sl) ∧ v.cell? ⟨b, o + k * 5 + 2, none⟩ = some (.int .i64 ss) ∧ v.cell? ⟨b, o + k * 5 + 3, none⟩ = some (.int .i64 sn) ∧ v.cell? ⟨b, o + k * 5 + 4, none⟩ = some (.string sw)) := Lib.hid fun v hv =>
     ⟨(Below.cell (p := ⟨b, o + k * 5, none⟩) hv hb).trans (by have := hc 0 _ rfl; rwa [Nat.add_zero] at this), (Below.cell (p := ⟨b, o + k * 5 + 1, none⟩) hv hb).trans (hc 1 _ rfl), (Below.cell (p := ⟨b, o + k * 5 + 2, none⟩) hv hb).trans (hc 2 _ rfl), (Below.cell (p := ⟨b, o + k * 5 + 3, none⟩) hv hb).trans (hc 3 _ rfl), (Below.cell (p := ⟨b, o + k * 5 + 4, none⟩) hv hb).trans (hc 4 _ rfl)⟩
    have HB : Hid (i64tx sf ∧ i64tx sl ∧ i64tx ss ∧ i64tx sn) := Lib.hid ⟨HTX.out.1, HTX.out.2.1, HTX.out.2.2.1, HTX.out.2.2.2.1⟩
    have hww : sw.size ≤ 1000 := HTX.out.2.2.2.2
    have HWD : Hid (Sp.word ⟨sf, sl, ss, sn, sw⟩ = if sw = ByteArray.empty then ity sf ++ ⟨#[45]⟩ ++ ity sl ++ ⟨#[58]⟩ ++ ity ss ++ ⟨#[58]⟩ ++ ity sn else ity sf ++ ⟨#[45]⟩ ++ ity sl ++ ⟨#[58]⟩ ++ ity ss ++ ⟨#[58]⟩ ++ ity sn ++ (⟨#[58]⟩ ++ sw)) := Lib.hid rfl
    clear hs hb hc
    have j0 : (0 : Int) ≤ (k : Int) := by omega
    have j1 : (k : Int) < (l.length : Int) := by omega
    obtain ⟨i1, hi1⟩ : ∃ i1, ity sf = i1 := ⟨_, rfl⟩
    obtain ⟨i2, hi2⟩ : ∃ i2, ity sl = i2 := ⟨_, rfl⟩
    obtain ⟨i3, hi3⟩ : ∃ i3, ity ss = i3 := ⟨_, rfl⟩
    obtain ⟨i4, hi4⟩ : ∃ i4, ity sn = i4 := ⟨_, rfl⟩
    have hs1 : i1.size ≤ 21 := by rw [← hi1]; exact ity_size HB.out.1.1 HB.out.1.2
    have hs2 : i2.size ≤ 21 := by rw [← hi2]; exact ity_size HB.out.2.1.1 HB.out.2.1.2
    have hs3 : i3.size ≤ 21 := by rw [← hi3]; exact ity_size HB.out.2.2.1.1 HB.out.2.2.1.2
    have hs4 : i4.size ≤ 21 := by rw [← hi4]; exact ity_size HB.out.2.2.2.1 HB.out.2.2.2.2
    rw [hi1, hi2, hi3, hi4] at HWD
    have HI1 : Hid ((⟨(Lib.itoa sf).toArray⟩ : ByteArray) = i1) := Lib.hid hi1
    have HI2 : Hid ((⟨(Lib.itoa sl).toArray⟩ : ByteArray) = i2) := Lib.hid hi2
    have HI3 : Hid ((⟨(Lib.itoa ss).toArray⟩ : ByteArray) = i3) := Lib.hid hi3
    have HI4 : Hid ((⟨(Lib.itoa sn).toArray⟩ : ByteArray) = i4) := Lib.hid hi4
    clear hi1 hi2 hi3 hi4
    obtain ⟨t0, ht0⟩ : ∃ t0, (if l.take k = [] then a else a ++ ⟨#[32]⟩) = t0 := ⟨_, rfl⟩
    rw [ht0] at htk
    have HTK := Lib.hid htk
    clear htk
    by_cases hk0 : k = 0
    · have hta : t0 = a := by rw [← ht0, if_pos (by subst hk0; rfl)]
      subst hta
      have k0 : (0 < k) = False := eq_false (by omega)
      clear ht0 hk0
      go_upto_region 7 with fail
      have c0 : (9223372036854775807 < t0.size + 1) = False := eq_false (by omega)
      have c1 : (9223372036854775807 < i1.size + 1) = False := eq_false (by omega)
      have c2 : (9223372036854775807 < i1.size + 1 + i2.size) = False := eq_false (by omega)
      have c3 : (9223372036854775807 < i1.size + 1 + i2.size + 1) = False := eq_false (by omega)
      have c4 : (9223372036854775807 < i1.size + 1 + i2.size + 1 + i3.size) = False := eq_false (by omega)
      have c5 : (9223372036854775807 < i1.size + 1 + i2.size + 1 + i3.size + 1) = False := eq_false (by omega)
      have c6 : (9223372036854775807 < i1.size + 1 + i2.size + 1 + i3.size + 1 + i4.size) = False := eq_false (by omega)
      have c7 : (9223372036854775807 < t0.size + (i1.size + 1 + i2.size + 1 + i3.size + 1 + i4.size)) = False := eq_false (by omega)
      refine region_rgx ([(6, (fun u => u = .string i1 : Value → Prop), (fun _ _ => True : (Nat → GV) → World → Prop)), (13, (fun u => u = .string i2 : Value → Prop), (fun _ _ => True : (Nat → GV) → World → Prop)), (21, (fun u => u = .string i3 : Value → Prop), (fun _ _ => True : (Nat → GV) → World → Prop)), (29, (fun u => u = .string i4 : Value → Prop), (fun _ _ => True : (Nat → GV) → World → Prop))]) (wr) (by kernel_rfl) (by kernel_rfl) ?_ ?_ ?_
      · exact List.forall_mem_cons.2 ⟨⟨⟨_, rfl⟩, fun _ _ _ _ _ => trivial, fun _ _ _ _ _ => trivial⟩, List.forall_mem_cons.2 ⟨⟨⟨_, rfl⟩, fun _ _ _ _ _ => trivial, fun _ _ _ _ _ => trivial⟩, List.forall_mem_cons.2 ⟨⟨⟨_, rfl⟩, fun _ _ _ _ _ => trivial, fun _ _ _ _ _ => trivial⟩, List.forall_mem_cons.2 ⟨⟨⟨_, rfl⟩, fun _ _ _ _ _ => trivial, fun _ _ _ _ _ => trivial⟩, List.forall_mem_nil _⟩⟩⟩⟩
      · first | assumption | exact Ext.refl _
      iterate 5
       refine rg_pure (v := ?_) rfl (by kernel_rfl) (by kernel_rfl) (fun w hS hN => ?_) ?_
       rotate_left 1
       · clear hN
         go_simp
         try simp only [c1, c2, c3, c4, c5, c6, c7, if_false]
         refine givesP_mk ?_
         with_reducible rfl
      refine rg_pure (v := ?_) rfl (by kernel_rfl) (by kernel_rfl) (fun w hS hN => ?_) ?_
      rotate_left 1
      · obtain ⟨z0, -⟩ := HCL.out _ hS
        clear hN
        go_simp
        try simp only [c1, c2, c3, c4, c5, c6, c7, if_false]
        refine givesP_mk ?_
        with_reducible rfl
      refine rg_mem (fun u => u = .string i1 : Value → Prop) (fun _ _ => True : (Nat → GV) → World → Prop) (fun _ => Ext) rfl rfl rfl rfl (by kernel_rfl) (by kernel_rfl) (fun w hS hN R hR => ?_) ?_
      · have HR := Lib.hid hR
        clear hR
        (try clear hN)
        go_simp
        refine givesM_call ((rsigned_any sf HB.out.1.1 HB.out.1.2 w).mono ?_)
        rintro e w' ⟨rfl, hx⟩
        rw [HI1.out]
        exact ⟨_, rfl, HR.out _ _ rfl trivial hx⟩
      rintro u6 s6 t6 rfl
      iterate 5
       refine rg_pure (v := ?_) rfl (by kernel_rfl) (by kernel_rfl) (fun w hS hN => ?_) ?_
       rotate_left 1
       · clear hN
         go_simp
         try simp only [c1, c2, c3, c4, c5, c6, c7, if_false]
         refine givesP_mk ?_
         with_reducible rfl
      refine rg_pure (v := ?_) rfl (by kernel_rfl) (by kernel_rfl) (fun w hS hN => ?_) ?_
      rotate_left 1
      · obtain ⟨-, z1, -⟩ := HCL.out _ hS
        clear hN
        go_simp
        try simp only [c1, c2, c3, c4, c5, c6, c7, if_false]
        refine givesP_mk ?_
        with_reducible rfl
      refine rg_mem (fun u => u = .string i2 : Value → Prop) (fun _ _ => True : (Nat → GV) → World → Prop) (fun _ => Ext) rfl rfl rfl rfl (by kernel_rfl) (by kernel_rfl) (fun w hS hN R hR => ?_) ?_
      · have HR := Lib.hid hR
        clear hR
        (try clear hN)
        go_simp
        refine givesM_call ((rsigned_any sl HB.out.2.1.1 HB.out.2.1.2 w).mono ?_)
        rintro e w' ⟨rfl, hx⟩
        rw [HI2.out]
        exact ⟨_, rfl, HR.out _ _ rfl trivial hx⟩
      rintro u13 s13 t13 rfl
      iterate 6
       refine rg_pure (v := ?_) rfl (by kernel_rfl) (by kernel_rfl) (fun w hS hN => ?_) ?_
       rotate_left 1
       · clear hN
         go_simp
         try simp only [c1, c2, c3, c4, c5, c6, c7, if_false]
         refine givesP_mk ?_
         with_reducible rfl
      refine rg_pure (v := ?_) rfl (by kernel_rfl) (by kernel_rfl) (fun w hS hN => ?_) ?_
      rotate_left 1
      · obtain ⟨-, -, z2, -⟩ := HCL.out _ hS
        clear hN
        go_simp
        try simp only [c1, c2, c3, c4, c5, c6, c7, if_false]
        refine givesP_mk ?_
        with_reducible rfl
      refine rg_mem (fun u => u = .string i3 : Value → Prop) (fun _ _ => True : (Nat → GV) → World → Prop) (fun _ => Ext) rfl rfl rfl rfl (by kernel_rfl) (by kernel_rfl) (fun w hS hN R hR => ?_) ?_
      · have HR := Lib.hid hR
        clear hR
        (try clear hN)
        go_simp
        refine givesM_call ((rsigned_any ss HB.out.2.2.1.1 HB.out.2.2.1.2 w).mono ?_)
        rintro e w' ⟨rfl, hx⟩
        rw [HI3.out]
        exact ⟨_, rfl, HR.out _ _ rfl trivial hx⟩
      rintro u21 s21 t21 rfl
      iterate 6
       refine rg_pure (v := ?_) rfl (by kernel_rfl) (by kernel_rfl) (fun w hS hN => ?_) ?_
       rotate_left 1
       · clear hN
         go_simp
         try simp only [c1, c2, c3, c4, c5, c6, c7, if_false]
         refine givesP_mk ?_
         with_reducible rfl
      refine rg_pure (v := ?_) rfl (by kernel_rfl) (by kernel_rfl) (fun w hS hN => ?_) ?_
      rotate_left 1
      · obtain ⟨-, -, -, z3, -⟩ := HCL.out _ hS
        clear hN
        go_simp
        try simp only [c1, c2, c3, c4, c5, c6, c7, if_false]
        refine givesP_mk ?_
        with_reducible rfl
      refine rg_mem (fun u => u = .string i4 : Value → Prop) (fun _ _ => True : (Nat → GV) → World → Prop) (fun _ => Ext) rfl rfl rfl rfl (by kernel_rfl) (by kernel_rfl) (fun w hS hN R hR => ?_) ?_
      · have HR := Lib.hid hR
        clear hR
        (try clear hN)
        go_simp
        refine givesM_call ((rsigned_any sn HB.out.2.2.2.1 HB.out.2.2.2.2 w).mono ?_)
        rintro e w' ⟨rfl, hx⟩
        rw [HI4.out]
        exact ⟨_, rfl, HR.out _ _ rfl trivial hx⟩
      rintro u29 s29 t29 rfl
      iterate 3
       refine rg_pure (v := ?_) rfl (by kernel_rfl) (by kernel_rfl) (fun w hS hN => ?_) ?_
       rotate_left 1
       · clear hN
         go_simp
         try simp only [c1, c2, c3, c4, c5, c6, c7, if_false]
         refine givesP_mk ?_
         with_reducible rfl
      refine rg_done rfl (Nat.le_of_ble_eq_true (by kernel_rfl)) ?_
      intro w8 hS hT
      have HX8 := Lib.hid (HX.out.trans hS)
      obtain ⟨-, -, -, -, z4⟩ := HCL.out _ hS
      clear hS hT c0 c1 c2 c3 c4 c5 c6 c7
      go_simp
      by_cases he : sw = ByteArray.empty
      · subst he
        rw [if_pos rfl] at HWD
        have HTN : Hid (Sp.text (l.take (k + 1)) = t0 ++ (i1 ++ ⟨#[45]⟩ ++ i2 ++ ⟨#[58]⟩ ++ i3 ++ ⟨#[58]⟩ ++ i4)) := Lib.hid (by rw [HTK.out, HWD.out])
        go_wp2
        go_roundw
        case rel => exact ⟨k + 1, by omega, by go_num, by rw [HTN.out], HX8.out⟩
        case measure => simp [intOf]; omega
      · rw [if_neg he] at HWD
        obtain ⟨e2, e3⟩ := tx_bytes_list (s := sw) he
        have HTN : Hid (Sp.text (l.take (k + 1)) = t0 ++ (i1 ++ ⟨#[45]⟩ ++ i2 ++ ⟨#[58]⟩ ++ i3 ++ ⟨#[58]⟩ ++ i4) ++ (⟨#[58]⟩ ++ sw)) := Lib.hid (by rw [HTK.out, HWD.out]; simp only [ByteArray.append_assoc])
        have c8 : (9223372036854775807 < t0.size + (i1.size + 1 + i2.size + 1 + i3.size + 1 + i4.size) + (1 + sw.size)) = False := eq_false (by omega)
        have c9 : (9223372036854775807 < 1 + sw.size) = False := eq_false (by omega)
        go_wp2
        go_roundw
        case rel => exact ⟨k + 1, by omega, by go_num, by rw [HTN.out], HX8.out⟩
        case measure => simp [intOf]; omega
    · have hta : t0 = a ++ ⟨#[32]⟩ := by
       rw [← ht0, if_neg]
       intro h
       have := congrArg List.length h
       rw [List.length_take, List.length_nil] at this
       omega
      have hsz : t0.size = a.size + 1 := by rw [hta, ByteArray.size_append]; rfl
      have hs0 : t0.size ≤ 1101001 := by omega
      have HTA := Lib.hid hta
      have k0 : (0 < k) = True := eq_true (by omega)
      have c00 : (9223372036854775807 < a.size + 1) = False := eq_false (by omega)
      clear ht0 hsz hta hk0
      go_upto_region 7 with fail
      rw [← HTA.out]
      have c0 : (9223372036854775807 < t0.size + 1) = False := eq_false (by omega)
      have c1 : (9223372036854775807 < i1.size + 1) = False := eq_false (by omega)
      have c2 : (9223372036854775807 < i1.size + 1 + i2.size) = False := eq_false (by omega)
      have c3 : (9223372036854775807 < i1.size + 1 + i2.size + 1) = False := eq_false (by omega)
      have c4 : (9223372036854775807 < i1.size + 1 + i2.size + 1 + i3.size) = False := eq_false (by omega)
      have c5 : (9223372036854775807 < i1.size + 1 + i2.size + 1 + i3.size + 1) = False := eq_false (by omega)
      have c6 : (9223372036854775807 < i1.size + 1 + i2.size + 1 + i3.size + 1 + i4.size) = False := eq_false (by omega)
      have c7 : (9223372036854775807 < t0.size + (i1.size + 1 + i2.size + 1 + i3.size + 1 + i4.size)) = False := eq_false (by omega)
      refine region_rgx ([(6, (fun u => u = .string i1 : Value → Prop), (fun _ _ => True : (Nat → GV) → World → Prop)), (13, (fun u => u = .string i2 : Value → Prop), (fun _ _ => True : (Nat → GV) → World → Prop)), (21, (fun u => u = .string i3 : Value → Prop), (fun _ _ => True : (Nat → GV) → World → Prop)), (29, (fun u => u = .string i4 : Value → Prop), (fun _ _ => True : (Nat → GV) → World → Prop))]) (wr) (by kernel_rfl) (by kernel_rfl) ?_ ?_ ?_
      · exact List.forall_mem_cons.2 ⟨⟨⟨_, rfl⟩, fun _ _ _ _ _ => trivial, fun _ _ _ _ _ => trivial⟩, List.forall_mem_cons.2 ⟨⟨⟨_, rfl⟩, fun _ _ _ _ _ => trivial, fun _ _ _ _ _ => trivial⟩, List.forall_mem_cons.2 ⟨⟨⟨_, rfl⟩, fun _ _ _ _ _ => trivial, fun _ _ _ _ _ => trivial⟩, List.forall_mem_cons.2 ⟨⟨⟨_, rfl⟩, fun _ _ _ _ _ => trivial, fun _ _ _ _ _ => trivial⟩, List.forall_mem_nil _⟩⟩⟩⟩
      · first | assumption | exact Ext.refl _
      iterate 5
       refine rg_pure (v := ?_) rfl (by kernel_rfl) (by kernel_rfl) (fun w hS hN => ?_) ?_
       rotate_left 1
       · clear hN
         go_simp
         try simp only [c1, c2, c3, c4, c5, c6, c7, if_false]
         refine givesP_mk ?_
         with_reducible rfl
      refine rg_pure (v := ?_) rfl (by kernel_rfl) (by kernel_rfl) (fun w hS hN => ?_) ?_
      rotate_left 1
      · obtain ⟨z0, -⟩ := HCL.out _ hS
        clear hN
        go_simp
        try simp only [c1, c2, c3, c4, c5, c6, c7, if_false]
        refine givesP_mk ?_
        with_reducible rfl
      refine rg_mem (fun u => u = .string i1 : Value → Prop) (fun _ _ => True : (Nat → GV) → World → Prop) (fun _ => Ext) rfl rfl rfl rfl (by kernel_rfl) (by kernel_rfl) (fun w hS hN R hR => ?_) ?_
      · have HR := Lib.hid hR
        clear hR
        (try clear hN)
        go_simp
        refine givesM_call ((rsigned_any sf HB.out.1.1 HB.out.1.2 w).mono ?_)
        rintro e w' ⟨rfl, hx⟩
        rw [HI1.out]
        exact ⟨_, rfl, HR.out _ _ rfl trivial hx⟩
      rintro u6 s6 t6 rfl
      iterate 5
       refine rg_pure (v := ?_) rfl (by kernel_rfl) (by kernel_rfl) (fun w hS hN => ?_) ?_
       rotate_left 1
       · clear hN
         go_simp
         try simp only [c1, c2, c3, c4, c5, c6, c7, if_false]
         refine givesP_mk ?_
         with_reducible rfl
      refine rg_pure (v := ?_) rfl (by kernel_rfl) (by kernel_rfl) (fun w hS hN => ?_) ?_
      rotate_left 1
      · obtain ⟨-, z1, -⟩ := HCL.out _ hS
        clear hN
        go_simp
        try simp only [c1, c2, c3, c4, c5, c6, c7, if_false]
        refine givesP_mk ?_
        with_reducible rfl
      refine rg_mem (fun u => u = .string i2 : Value → Prop) (fun _ _ => True : (Nat → GV) → World → Prop) (fun _ => Ext) rfl rfl rfl rfl (by kernel_rfl) (by kernel_rfl) (fun w hS hN R hR => ?_) ?_
      · have HR := Lib.hid hR
        clear hR
        (try clear hN)
        go_simp
        refine givesM_call ((rsigned_any sl HB.out.2.1.1 HB.out.2.1.2 w).mono ?_)
        rintro e w' ⟨rfl, hx⟩
        rw [HI2.out]
        exact ⟨_, rfl, HR.out _ _ rfl trivial hx⟩
      rintro u13 s13 t13 rfl
      iterate 6
       refine rg_pure (v := ?_) rfl (by kernel_rfl) (by kernel_rfl) (fun w hS hN => ?_) ?_
       rotate_left 1
       · clear hN
         go_simp
         try simp only [c1, c2, c3, c4, c5, c6, c7, if_false]
         refine givesP_mk ?_
         with_reducible rfl
      refine rg_pure (v := ?_) rfl (by kernel_rfl) (by kernel_rfl) (fun w hS hN => ?_) ?_
      rotate_left 1
      · obtain ⟨-, -, z2, -⟩ := HCL.out _ hS
        clear hN
        go_simp
        try simp only [c1, c2, c3, c4, c5, c6, c7, if_false]
        refine givesP_mk ?_
        with_reducible rfl
      refine rg_mem (fun u => u = .string i3 : Value → Prop) (fun _ _ => True : (Nat → GV) → World → Prop) (fun _ => Ext) rfl rfl rfl rfl (by kernel_rfl) (by kernel_rfl) (fun w hS hN R hR => ?_) ?_
      · have HR := Lib.hid hR
        clear hR
        (try clear hN)
        go_simp
        refine givesM_call ((rsigned_any ss HB.out.2.2.1.1 HB.out.2.2.1.2 w).mono ?_)
        rintro e w' ⟨rfl, hx⟩
        rw [HI3.out]
        exact ⟨_, rfl, HR.out _ _ rfl trivial hx⟩
      rintro u21 s21 t21 rfl
      iterate 6
       refine rg_pure (v := ?_) rfl (by kernel_rfl) (by kernel_rfl) (fun w hS hN => ?_) ?_
       rotate_left 1
       · clear hN
         go_simp
         try simp only [c1, c2, c3, c4, c5, c6, c7, if_false]
         refine givesP_mk ?_
         with_reducible rfl
      refine rg_pure (v := ?_) rfl (by kernel_rfl) (by kernel_rfl) (fun w hS hN => ?_) ?_
      rotate_left 1
      · obtain ⟨-, -, -, z3, -⟩ := HCL.out _ hS
        clear hN
        go_simp
        try simp only [c1, c2, c3, c4, c5, c6, c7, if_false]
        refine givesP_mk ?_
        with_reducible rfl
      refine rg_mem (fun u => u = .string i4 : Value → Prop) (fun _ _ => True : (Nat → GV) → World → Prop) (fun _ => Ext) rfl rfl rfl rfl (by kernel_rfl) (by kernel_rfl) (fun w hS hN R hR => ?_) ?_
      · have HR := Lib.hid hR
        clear hR
        (try clear hN)
        go_simp
        refine givesM_call ((rsigned_any sn HB.out.2.2.2.1 HB.out.2.2.2.2 w).mono ?_)
        rintro e w' ⟨rfl, hx⟩
        rw [HI4.out]
        exact ⟨_, rfl, HR.out _ _ rfl trivial hx⟩
      rintro u29 s29 t29 rfl
      iterate 3
       refine rg_pure (v := ?_) rfl (by kernel_rfl) (by kernel_rfl) (fun w hS hN => ?_) ?_
       rotate_left 1
       · clear hN
         go_simp
         try simp only [c1, c2, c3, c4, c5, c6, c7, if_false]
         refine givesP_mk ?_
         with_reducible rfl
      refine rg_done rfl (Nat.le_of_ble_eq_true (by kernel_rfl)) ?_
      intro w8 hS hT
      have HX8 := Lib.hid (HX.out.trans hS)
      obtain ⟨-, -, -, -, z4⟩ := HCL.out _ hS
      clear hS hT c0 c1 c2 c3 c4 c5 c6 c7
      go_simp
      by_cases he : sw = ByteArray.empty
      · subst he
        rw [if_pos rfl] at HWD
        have HTN : Hid (Sp.text (l.take (k + 1)) = t0 ++ (i1 ++ ⟨#[45]⟩ ++ i2 ++ ⟨#[58]⟩ ++ i3 ++ ⟨#[58]⟩ ++ i4)) := Lib.hid (by rw [HTK.out, HWD.out])
        go_wp2
        go_roundw
        case rel => exact ⟨k + 1, by omega, by go_num, by rw [HTN.out], HX8.out⟩
        case measure => simp [intOf]; omega
      · rw [if_neg he] at HWD
        obtain ⟨e2, e3⟩ := tx_bytes_list (s := sw) he
        have HTN : Hid (Sp.text (l.take (k + 1)) = t0 ++ (i1 ++ ⟨#[45]⟩ ++ i2 ++ ⟨#[58]⟩ ++ i3 ++ ⟨#[58]⟩ ++ i4) ++ (⟨#[58]⟩ ++ sw)) := Lib.hid (by rw [HTK.out, HWD.out]; simp only [ByteArray.append_assoc])
        have c8 : (9223372036854775807 < t0.size + (i1.size + 1 + i2.size + 1 + i3.size + 1 + i4.size) + (1 + sw.size)) = False := eq_false (by omega)
        have c9 : (9223372036854775807 < 1 + sw.size) = False := eq_false (by omega)
        go_wp2
        go_roundw
        case rel => exact ⟨k + 1, by omega, by go_num, by rw [HTN.out], HX8.out⟩
        case measure => simp [intOf]; omega
  · obtain rfl : k = l.length := by omega
    have HE : Hid (Sp.text (l.take l.length) = r) := Lib.hid (by rw [List.take_length]; exact HRR.out)
    go_wp2
    go_ret
    exact ⟨by rw [← HE.out] <;> rfl, HX.out⟩
end Go.Proofs.YtohncgikdlbogaaDoor
