/-
  Several texts in one: Te, Tf, Tg, Tl, Tr, Tq.
-/
import Derived.Test.YtogcfndhcphpaaaA06
import Derived.Test.YtogcfndhcphpaaaA07
/-
  The document's May, Small and Same of programs: contracts.
-/
set_option linter.unusedVariables false
set_option linter.unusedSimpArgs false
namespace Go.Proofs.Ytogcfndhcphpaaa
open Go.RowKit

theorem NestAt.get {α : Type} {m : Nat} {f : α → List Value} {w : World} {A : Option Addr} {n c : Nat} {xss : List (List α)} (h : NestAt m f w (.slice A n c) xss) {k : Nat} {xs : List α} (hk : xss[k]? = some xs) :
    ∃ b o B d, A = some ⟨b, o, none⟩ ∧ b < w.heap.size ∧ w.cell? ⟨b, o + k, none⟩ = some (.slice B xs.length d) ∧ RowsAt m f w (.slice B xs.length d) xs := by
  obtain ⟨b, o, u, hA, hb, hc, hr⟩ := h.one hk
  obtain ⟨B, d, rfl, _⟩ := hr.form
  exact ⟨b, o, B, d, hA, hb, hc, hr⟩
theorem NestAt.form2 {α : Type} {m : Nat} {f : α → List Value} {w : World} {v : Value} {xss : List (List α)} (h : NestAt m f w v xss) : ∃ A c, v = .slice A xss.length c := by
  obtain ⟨vs, hl, hr, _⟩ := h
  obtain ⟨A, c, rfl, _⟩ := hr.form
  exact ⟨A, c, by rw [hl]⟩
set_option maxHeartbeats 1000000 in
theorem rmost_any (A : Option Addr) (n c : Nat) (d : Int) (hn : n ≤ 100000) (w : World) : Calls Try.prog 115 #[.slice A n c, .int .i64 d] w fun e w' => e = .returned (.int .i64 (Pg.most n d)) ∧ w' = w := by
  unfold Pg.most
  have hn' : (n : Int) ≤ 100000 := by omega
  by_cases h1 : d = 1
  · subst h1
    rw [if_pos rfl]
    go_enter Try.func115, Try.ntmps115
    go_wp2
    go_ret
    exact ⟨rfl, rfl⟩
  · rw [if_neg h1]
    have e1 : (d == 1) = false := by simpa using h1
    by_cases h3 : d = 3
    · subst h3
      rw [if_pos (.inl rfl)]
      clear h1 e1
      go_enter Try.func115, Try.ntmps115
      go_wp2
      go_ret
      exact ⟨rfl, rfl⟩
    · have e3 : (d == 3) = false := by simpa using h3
      by_cases h4 : d = 4
      · subst h4
        rw [if_pos (.inr rfl)]
        clear h1 e1 h3 e3
        go_enter Try.func115, Try.ntmps115
        go_wp2
        go_ret
        exact ⟨rfl, rfl⟩
      · have e4 : (d == 4) = false := by simpa using h4
        rw [if_neg (by omega)]
        by_cases h6 : d = 6
        · subst h6
          rw [if_pos rfl]
          clear h1 e1 h3 e3 h4 e4
          go_enter Try.func115, Try.ntmps115
          go_wp2
          go_ret
          exact ⟨rfl, rfl⟩
        · have e6 : (d == 6) = false := by simpa using h6
          rw [if_neg h6]
          clear h1 h3 h4 h6
          go_enter Try.func115, Try.ntmps115
          go_wp2
          go_ret
          exact ⟨rfl, rfl⟩
set_option maxRecDepth 100000 in
set_option maxHeartbeats 2000000 in
theorem rpmay_any (v : Value) (p : List (List (Int × Int))) (r : Bool) (hr : Pg.may p = r) (w : World) (h : NestAt 2 pairL w v p) (h1 : p.length ≤ 100000) (h2 : ∀ l ∈ p, l.length ≤ 100000) :
    Calls Try.prog 73 #[v] w fun e w' => e = .returned (.bool r) ∧ Ext w w' := by
  subst hr
  have H := Lib.hid h
  have H2 := Lib.hid h2
  obtain ⟨A, c, rfl⟩ := h.form2
  clear h h2
  by_cases a1 : p.length < 1
  · have HT : Hid (Pg.may p = false) := Lib.hid (by unfold Pg.may; rw [decide_eq_false (by omega)]; rfl)
    have a1' : (p.length : Int) < 1 := by omega
    go_enter Try.func73, Try.ntmps73
    go_wp2
    go_ret
    rw [HT.out]
    exact ⟨rfl, Ext.refl _⟩
  by_cases a2 : 8 < p.length
  · have HT : Hid (Pg.may p = false) := Lib.hid (by unfold Pg.may; rw [decide_eq_false (by omega)]; rfl)
    have a1' : (1 : Int) ≤ (p.length : Int) := by omega
    have a2' : (8 : Int) < (p.length : Int) := by omega
    go_enter Try.func73, Try.ntmps73
    go_wp2
    go_ret
    rw [HT.out]
    exact ⟨rfl, Ext.refl _⟩
  have a1' : (1 : Int) ≤ (p.length : Int) := by omega
  have a2' : (p.length : Int) ≤ 8 := by omega
  have HST : Hid (∀ (j : Nat) l, p[j]? = some l → Pg.okC p.length l = false → Pg.may p = false) := Lib.hid fun j l hj hl => by
    unfold Pg.may; rw [all_no hj hl, Bool.and_false]
  have HOK : Hid ((∀ (j : Nat) l, p[j]? = some l → Pg.okC p.length l = true) → Pg.may p = true) := Lib.hid fun h => by
    unfold Pg.may; rw [all_yes h, decide_eq_true (by omega)]; rfl
  have HMO : Hid (∀ (d : Int) (w : World), Calls Try.prog 115 #[.slice A p.length c, .int .i64 d] w fun e w' => e = .returned (.int .i64 (Pg.most p.length d)) ∧ w' = w) := Lib.hid fun d w => rmost_any A p.length c d h1 w
  clear a1 a2
  go_enter Try.func73, Try.ntmps73
  go_wp2
  go_loopw [3] (fun iv wr => ∃ k : Nat, k ≤ p.length ∧ iv = .int .i64 k ∧ (∀ (j : Nat) l, p[j]? = some l → j < k → Pg.okC p.length l = true) ∧ Ext w wr) (fun iv _ => p.length - (intOf iv).toNat)
  case atStart => exact ⟨0, by omega, rfl, fun j l _ h => by omega, Ext.refl _⟩
  case round =>
    obtain ⟨k, hk, rfl, hall, hx⟩ := hrel
    have HALL := Lib.hid hall
    have HX := Lib.hid hx
    clear hall hx
    by_cases hlt : k < p.length
    · obtain ⟨l, hl⟩ : ∃ l, p[k]? = some l := ⟨_, List.getElem?_eq_getElem hlt⟩
      have hl2 := H2.out l (List.mem_of_getElem? hl)
      obtain ⟨b, o, B, d, rfl, hb, hcu, hrow⟩ := H.out.get hl
      have HCU := Lib.hid hcu
      have HB := Lib.hid hb
      have HR := Lib.hid hrow
      have HL := Lib.hid hl
      clear hl hb hcu hrow
      have c0 : wr.cell? ⟨b, o + k, none⟩ = some (.slice B l.length d) := (Below.cell HX.out HB.out).trans HCU.out
      by_cases b1 : 20 < l.length
      · have HT : Hid (Pg.may p = false) := Lib.hid (HST.out k l HL.out (by unfold Pg.okC; rw [decide_eq_false (by omega)]; rfl))
        have b1' : (20 : Int) < (l.length : Int) := by omega
        go_wp2
        go_ret
        rw [HT.out]
        exact ⟨rfl, HX.out⟩
      have b1' : (l.length : Int) ≤ 20 := by omega
      have HNI : Hid (∀ (j : Nat) x, l[j]? = some x → Pg.okI p.length x = false → Pg.may p = false) := Lib.hid fun j x hj hx => HST.out k l HL.out (by unfold Pg.okC; rw [all_no hj hx, Bool.and_false])
      have HYI : Hid ((∀ (j : Nat) x, l[j]? = some x → Pg.okI p.length x = true) → Pg.okC p.length l = true) := Lib.hid fun h => by unfold Pg.okC; rw [all_yes h, decide_eq_true (by omega)]; rfl
      obtain ⟨wo, rfl⟩ : ∃ wo, wo = wr := ⟨_, rfl⟩
      go_wp2_with fail
      clear c0
      go_loopw [4] (fun iv wr => ∃ j : Nat, j ≤ l.length ∧ iv = .int .i64 j ∧ (∀ (i : Nat) x, l[i]? = some x → i < j → Pg.okI p.length x = true) ∧ Ext w wr) (fun iv _ => l.length - (intOf iv).toNat)
      case atStart => exact ⟨0, by omega, rfl, fun j l _ h => by omega, HX.out⟩
      case round =>
        clear HX
        obtain ⟨j, hj, rfl, hin, hx⟩ := hrel
        have HIN := Lib.hid hin
        have HX := Lib.hid hx
        clear hin hx
        have c0 : wr.cell? ⟨b, o + k, none⟩ = some (.slice B l.length d) := (Below.cell HX.out HB.out).trans HCU.out
        by_cases hlt2 : j < l.length
        · obtain ⟨x, hx⟩ : ∃ x, l[j]? = some x := ⟨_, List.getElem?_eq_getElem hlt2⟩
          obtain ⟨b3, o3, rfl, hb3, e0, e1⟩ := frs2_get (HR.out.ext HX.out) hx
          have HXX := Lib.hid hx
          obtain ⟨d, a⟩ := x
          simp only at e0 e1
          obtain ⟨w3, hw3⟩ : ∃ w3, wr.alloc (.cells #[.int .i64 d, .int .i64 a] 68) = w3 := ⟨_, rfl⟩
          have HW3 := Lib.hid hw3
          have HX3 : Hid (Ext w w3) := Lib.hid (by rw [← hw3]; exact HX.out.alloc _)
          have hq : w3.heap[wr.heap.size]? = some (.cells #[.int .i64 d, .int .i64 a] 68 (0, 0)) := by rw [← hw3]; exact blk_new wr _
          have q0 := blk_cell hq 0 _ rfl
          have q1 := blk_cell hq 1 _ rfl
          clear hx hb3 hq hw3
          by_cases t1 : d < 0
          · have HNO : Hid (Pg.may p = false) := Lib.hid (HNI.out j _ HXX.out (by unfold Pg.okI; rw [decide_eq_false (by simp only; omega)]))
            (go_upto_region 12 with fail; rw [HW3.out]; go_quiet ((go_at_call 115; exact Calls.quiet_of_same (HMO.out _))); go_wp2; go_ret; exact ⟨by rw [HNO.out] <;> rfl, HX3.out.drewN _⟩)
          by_cases t2 : 6 < d
          · have HNO : Hid (Pg.may p = false) := Lib.hid (HNI.out j _ HXX.out (by unfold Pg.okI; rw [decide_eq_false (by simp only; omega)]))
            (go_upto_region 12 with fail; rw [HW3.out]; go_quiet ((go_at_call 115; exact Calls.quiet_of_same (HMO.out _))); go_wp2; go_ret; exact ⟨by rw [HNO.out] <;> rfl, HX3.out.drewN _⟩)
          by_cases t3 : a < 0
          · have HNO : Hid (Pg.may p = false) := Lib.hid (HNI.out j _ HXX.out (by unfold Pg.okI; rw [decide_eq_false (by simp only; omega)]))
            (go_upto_region 12 with fail; rw [HW3.out]; go_quiet ((go_at_call 115; exact Calls.quiet_of_same (HMO.out _))); go_wp2; go_ret; exact ⟨by rw [HNO.out] <;> rfl, HX3.out.drewN _⟩)
          obtain ⟨mo, hmo⟩ : ∃ mo, Pg.most p.length d = mo := ⟨_, rfl⟩
          have HMS : Hid (Pg.most p.length d = mo) := Lib.hid hmo
          have HM := HMO
          have HMO := Lib.hid (HM.out d)
          rw [hmo] at HMO
          by_cases t4 : mo < a
          · have HNO : Hid (Pg.may p = false) := Lib.hid (HNI.out j _ HXX.out (by unfold Pg.okI; rw [decide_eq_false (by simp only [HMS.out]; omega)]))
            clear hmo HM
            (go_upto_region 12 with fail; rw [HW3.out]; go_quiet ((go_at_call 115; exact Calls.quiet_of_same (HMO.out _))); go_wp2; go_ret; exact ⟨by rw [HNO.out] <;> rfl, HX3.out.drewN _⟩)
          · have t4' : a ≤ mo := by omega
            have HYES : Hid (Pg.okI p.length (d, a) = true) := Lib.hid (by unfold Pg.okI; rw [decide_eq_true (by simp only [HMS.out]; omega)])
            clear hmo HM
            go_upto_region 12 with fail
            rw [HW3.out]
            go_quiet ((go_at_call 115; exact Calls.quiet_of_same (HMO.out _)))
            go_wp2
            go_roundw
            case rel =>
              refine ⟨j + 1, by omega, by go_num, fun i y hi hij => ?_, HX3.out.drewN _⟩
              by_cases hij2 : i < j
              · exact HIN.out i y hi hij2
              · obtain rfl : i = j := by omega
                rw [HXX.out] at hi
                injection hi with hi
                rw [← hi]
                exact HYES.out
            case measure => simp [intOf]; omega
        · obtain rfl : j = l.length := by omega
          have HKC : Hid (Pg.okC p.length l = true) := Lib.hid (HYI.out fun i x hi => HIN.out i x hi (List.getElem?_eq_some_iff.1 hi).1)
          go_wp2
          go_roundw
          case rel =>
            refine ⟨k + 1, by omega, by go_num, fun i y hi hij => ?_, HX.out⟩
            by_cases hij2 : i < k
            · exact HALL.out i y hi hij2
            · obtain rfl : i = k := by omega
              rw [HL.out] at hi
              injection hi with hi
              rw [← hi]
              exact HKC.out
          case measure => simp [intOf]; omega
    · obtain rfl : k = p.length := by omega
      have HY : Hid (Pg.may p = true) := Lib.hid (HOK.out fun j l hj => HALL.out j l hj (List.getElem?_eq_some_iff.1 hj).1)
      go_wp2
      go_ret
      rw [HY.out]
      exact ⟨rfl, HX.out⟩
end Go.Proofs.Ytogcfndhcphpaaa
/-
  The document's May of states, I: goods, holds.
-/
set_option linter.unusedVariables false
set_option linter.unusedSimpArgs false
namespace Go.Proofs.Ytogcfndhcphpaaa
open Go.RowKit

theorem some_eq {α : Type} {l : List α} {k : Nat} {x y : α} (h : l[k]? = some x) (h' : l[k]? = some y) : x = y := by rw [h] at h'; injection h'
set_option maxRecDepth 100000 in
set_option maxHeartbeats 4000000 in
theorem rgoods_any (h : StH) (s : St) (r : Bool) (hr : s.goods = r) (w : World) (hk : StOk w h s) (hf : StFew s) : Calls Try.prog 76 #[stV h s] w fun e w' => e = .returned (.bool r) ∧ Ext w w' := by
  subst hr
  have f1 := hf.gs
  have f2 := hf.prog.1
  have HPL := Lib.hid hf.prog.2
  have HK := Lib.hid hk
  obtain ⟨w1, hw1⟩ : ∃ w1, w.alloc (.cells #[.slice h.pa s.prog.length h.pc, .slice h.ga s.gs.length h.gc, .slice h.qa s.ps.length h.qc, .slice h.ma s.ms.length h.mc, .slice h.la s.glob.length h.lc, .int .i64 s.c0, .int .i64 s.c1, .int .i64 s.c2, .int .i64 s.c3, .slice h.a0 s.w0.length h.k0, .slice h.a1 s.w1.length h.k1, .slice h.a2 s.w2.length h.k2, .slice h.a3 s.w3.length h.k3, .slice h.ta s.timers.length h.tc, .int .i64 s.clock, .int .i64 s.procs] 32) = w1 := ⟨_, rfl⟩
  have HX1 : Hid (Ext w w1) := Lib.hid (by rw [← hw1]; exact (Ext.refl w).alloc _)
  have HB1 : Hid (w1.heap[w.heap.size]? = some (.cells (stC h s) 32 (0, 0))) := Lib.hid (by rw [← hw1]; exact blk_new w _)
  have HK1 := Lib.hid (hk.ext HX1.out)
  have HW1 := Lib.hid hw1
  clear hw1 hk
  clear hf
  unfold stV
  go_enter Try.func76, Try.ntmps76
  go_upto_region 1 with fail
  rw [HW1.out]
  generalize Value.agg #[.slice h.pa s.prog.length h.pc, .slice h.ga s.gs.length h.gc, .slice h.qa s.ps.length h.qc, .slice h.ma s.ms.length h.mc, .slice h.la s.glob.length h.lc, .int .i64 s.c0, .int .i64 s.c1, .int .i64 s.c2, .int .i64 s.c3, .slice h.a0 s.w0.length h.k0, .slice h.a1 s.w1.length h.k1, .slice h.a2 s.w2.length h.k2, .slice h.a3 s.w3.length h.k3, .slice h.ta s.timers.length h.tc, .int .i64 s.clock, .int .i64 s.procs] = sv0
  go_wp2_with fail
  go_loopw [3] (fun iv wr => ∃ k : Nat, k ≤ s.gs.length ∧ iv = .int .i64 k ∧ (∀ (j : Nat) g, s.gs[j]? = some g → j < k → s.good g = true) ∧ Ext w1 wr) (fun iv _ => s.gs.length - (intOf iv).toNat)
  case atStart => exact ⟨0, by omega, rfl, fun j l _ h => by omega, Ext.refl _⟩
  case round =>
    obtain ⟨k, hk, rfl, hall, hx⟩ := hrel
    have HALL := Lib.hid hall
    have HX := Lib.hid hx
    clear hall hx
    have q1 := st1 (HX.out.blk HB1.out)
    by_cases hlt : k < s.gs.length
    · obtain ⟨g, hg⟩ : ∃ g, s.gs[k]? = some g := ⟨_, List.getElem?_eq_getElem hlt⟩
      have HG := Lib.hid hg
      obtain ⟨b, o, hA, hb, p0, p1, p2, p3, p4⟩ := gs_get (HK1.out.ext HX.out).gs hg
      have HST : Hid (s.good g = false → s.goods = false) := Lib.hid fun h => all_no hg h
      obtain ⟨fn, pc, st, m, sq⟩ := g
      simp only at p0 p1 p2 p3 p4
      obtain ⟨w3, hw3⟩ : ∃ w3, wr.alloc (.cells #[.int .i64 fn, .int .i64 pc, .int .i64 st, .int .i64 m, .int .i64 sq] 55) = w3 := ⟨_, rfl⟩
      have HW3 := Lib.hid hw3
      have HX3 : Hid (Ext w1 w3) := Lib.hid (by rw [← hw3]; exact HX.out.alloc _)
      have hq : w3.heap[wr.heap.size]? = some (.cells #[.int .i64 fn, .int .i64 pc, .int .i64 st, .int .i64 m, .int .i64 sq] 55 (0, 0)) := by rw [← hw3]; exact blk_new wr _
      have z0 := blk_cell hq 0 _ rfl
      have z1 := blk_cell hq 1 _ rfl
      have z4 := blk_cell hq 4 _ rfl
      have y0 := st0 (HX3.out.blk HB1.out)
      clear hg hb hq hw3
      by_cases a1 : fn < 0
      · have HNO : Hid (s.goods = false) := Lib.hid (HST.out (by unfold St.good; rw [decide_eq_false (by simp only; omega)]; rfl))
        go_wp2_with (rw [HW3.out])
        (go_ret; exact ⟨by rw [HNO.out] <;> rfl, HX1.out.trans HX3.out⟩)
      obtain ⟨f, rfl⟩ : ∃ f : Nat, fn = f := ⟨fn.toNat, by omega⟩
      clear a1
      by_cases a2 : s.prog.length ≤ f
      · have HNO : Hid (s.goods = false) := Lib.hid (HST.out (by unfold St.good; rw [decide_eq_false (by simp only; omega)]; rfl))
        have a2' : (s.prog.length : Int) ≤ (f : Int) := by omega
        go_wp2_with (rw [HW3.out])
        (go_ret; exact ⟨by rw [HNO.out] <;> rfl, HX1.out.trans HX3.out⟩)
      have a2' : (f : Int) < (s.prog.length : Int) := by omega
      by_cases a3 : pc < 0
      · have HNO : Hid (s.goods = false) := Lib.hid (HST.out (by unfold St.good; rw [decide_eq_false (by simp only; omega)]; rfl))
        go_wp2_with (rw [HW3.out])
        (go_ret; exact ⟨by rw [HNO.out] <;> rfl, HX1.out.trans HX3.out⟩)
      have a3' : 0 ≤ pc := by omega
      cases hlow : St.low sq with
      | false =>
        have HNO : Hid (s.goods = false) := Lib.hid (HST.out (by unfold St.good; simp only [hlow]; simp))
        go_wp2_with (rw [HW3.out])
        refine (rlow_k sq false hlow _).mono ?_
        rintro e w' ⟨rfl, rfl⟩
        go_wp2
        (go_ret; exact ⟨by rw [HNO.out] <;> rfl, HX1.out.trans HX3.out⟩)
      | true =>
        obtain ⟨l, hl⟩ : ∃ l, s.prog[f]? = some l := ⟨_, List.getElem?_eq_getElem (by omega)⟩
        obtain ⟨b2, o2, B, d, hA2, hb2, hcu, hrow⟩ := (HK1.out.ext HX3.out).prog.get hl
        have hll := HPL.out l (List.mem_of_getElem? hl)
        have HGD : Hid (s.good ⟨f, pc, st, m, sq⟩ = decide (pc ≤ (l.length : Int))) := Lib.hid (by
          unfold St.good
          simp only [hlow]
          rw [decide_eq_true (show 0 ≤ (f : Int) ∧ (f : Int) < (s.prog.length : Int) ∧ 0 ≤ pc by omega), List.getD, Int.toNat_natCast, hl]
          simp)
        clear a2 a3 hb2 hrow hl
        go_wp2_with (rw [HW3.out])
        refine (rlow_k sq true hlow _).mono ?_
        rintro e w' ⟨rfl, rfl⟩
        go_upto_region 7 with fail
        by_cases a5 : (l.length : Int) < pc
        · have HNO : Hid (s.goods = false) := Lib.hid (HST.out (by rw [HGD.out, decide_eq_false (by omega)]))
          go_quiet (fail)
          go_wp2
          go_ret
          exact ⟨by rw [HNO.out] <;> rfl, HX1.out.trans (HX3.out.drewN _)⟩
        · have HYES : Hid (s.good ⟨f, pc, st, m, sq⟩ = true) := Lib.hid (by rw [HGD.out, decide_eq_true (by omega)])
          go_quiet (fail)
          go_wp2
          go_roundw
          case rel =>
            refine ⟨k + 1, by omega, by go_num, fun i y hi hij => ?_, HX3.out.drewN _⟩
            by_cases hij2 : i < k
            · exact HALL.out i y hi hij2
            · obtain rfl : i = k := by omega
              rw [← some_eq HG.out hi]
              exact HYES.out
          case measure => simp [intOf]; omega
    · obtain rfl : k = s.gs.length := by omega
      have HY : Hid (s.goods = true) := Lib.hid (all_yes fun j l hj => HALL.out j l hj (List.getElem?_eq_some_iff.1 hj).1)
      go_wp2
      go_ret
      exact ⟨by rw [HY.out] <;> rfl, HX1.out.trans HX.out⟩
end Go.Proofs.Ytogcfndhcphpaaa
/-
  The document's May of states, II: holds.
-/
set_option linter.unusedVariables false
set_option linter.unusedSimpArgs false
namespace Go.Proofs.Ytogcfndhcphpaaa
open Go.RowKit

/-- What a P holds, part by part. -/
theorem holdP_no1 {s : St} {i : Nat} {p : Pr} (h : p.ring.may = false) : s.holdP i p = false := by unfold St.holdP; rw [h]; rfl
theorem holdP_no2 {s : St} {i : Nat} {p : Pr} (h : St.low p.seq = false) : s.holdP i p = false := by unfold St.holdP; rw [h]; simp
theorem holdP_no3 {s : St} {i : Nat} {p : Pr} (h : ¬ (0 ≤ p.m ∧ p.m ≤ s.ms.length)) : s.holdP i p = false := by unfold St.holdP; rw [decide_eq_false h]; simp
theorem holdP_no4 {s : St} {i : Nat} {p : Pr} (h : ¬ (0 < p.m → (s.ms.getD (p.m - 1).toNat (0, 0)).1 = i + 1)) : s.holdP i p = false := by unfold St.holdP; rw [decide_eq_false h]; simp
theorem holdP_no5 {s : St} {i : Nat} {p : Pr} (h : s.procs ≤ i) (h2 : 0 < p.m ∨ p.next ≠ 0 ∨ 0 < p.ring.n) : s.holdP i p = false := by
  unfold St.holdP
  have : (decide (s.procs ≤ i) && (decide (0 < p.m) || decide (p.next ≠ 0) || decide (0 < p.ring.n))) = true := by simp [h]; omega
  rw [this]; simp
theorem holdP_yes {s : St} {i : Nat} {p : Pr} (h1 : p.ring.may = true) (h2 : St.low p.seq = true) (h3 : 0 ≤ p.m ∧ p.m ≤ s.ms.length) (h4 : 0 < p.m → (s.ms.getD (p.m - 1).toNat (0, 0)).1 = i + 1) (h5 : i < s.procs ∨ (p.m = 0 ∧ p.next = 0 ∧ ¬ 0 < p.ring.n)) : s.holdP i p = true := by
  unfold St.holdP
  rw [h1, h2, decide_eq_true h3, decide_eq_true h4]
  have : (decide (s.procs ≤ i) && (decide (0 < p.m) || decide (p.next ≠ 0) || decide (0 < p.ring.n))) = false := by
    rcases h5 with h | ⟨a, b, c⟩
    · rw [decide_eq_false (by omega)]; rfl
    · rw [a, b]; simp; omega
  rw [this]; rfl
set_option maxRecDepth 100000 in
set_option maxHeartbeats 8000000 in
theorem rholds_any (h : StH) (s : St) (r : Bool) (hr : s.holds = r) (w : World) (hk : StOk w h s) (hf : StFew s) : Calls Try.prog 77 #[stV h s] w fun e w' => e = .returned (.bool r) ∧ Ext w w' := by
  subst hr
  have f1 := hf.ps
  have f2 := hf.ms
  have HK := Lib.hid hk
  obtain ⟨w1, hw1⟩ : ∃ w1, w.alloc (.cells #[.slice h.pa s.prog.length h.pc, .slice h.ga s.gs.length h.gc, .slice h.qa s.ps.length h.qc, .slice h.ma s.ms.length h.mc, .slice h.la s.glob.length h.lc, .int .i64 s.c0, .int .i64 s.c1, .int .i64 s.c2, .int .i64 s.c3, .slice h.a0 s.w0.length h.k0, .slice h.a1 s.w1.length h.k1, .slice h.a2 s.w2.length h.k2, .slice h.a3 s.w3.length h.k3, .slice h.ta s.timers.length h.tc, .int .i64 s.clock, .int .i64 s.procs] 32) = w1 := ⟨_, rfl⟩
  have HX1 : Hid (Ext w w1) := Lib.hid (by rw [← hw1]; exact (Ext.refl w).alloc _)
  have HB1 : Hid (w1.heap[w.heap.size]? = some (.cells (stC h s) 32 (0, 0))) := Lib.hid (by rw [← hw1]; exact blk_new w _)
  have HK1 := Lib.hid (hk.ext HX1.out)
  have HW1 := Lib.hid hw1
  clear hw1 hk
  clear hf
  have HSTP : Hid (∀ (i : Nat) p, s.ps[i]? = some p → s.holdP i p = false → s.holds = false) := Lib.hid fun i p hp h => by unfold St.holds; rw [allIx_no hp h]; rfl
  have HSTM : Hid (∀ (i : Nat) m, s.ms[i]? = some m → s.holdM i m = false → s.holds = false) := Lib.hid fun i p hp h => by unfold St.holds; rw [allIx_no hp h, Bool.and_false]
  unfold stV
  go_enter Try.func77, Try.ntmps77
  go_upto_region 1 with fail
  rw [HW1.out]
  generalize Value.agg #[.slice h.pa s.prog.length h.pc, .slice h.ga s.gs.length h.gc, .slice h.qa s.ps.length h.qc, .slice h.ma s.ms.length h.mc, .slice h.la s.glob.length h.lc, .int .i64 s.c0, .int .i64 s.c1, .int .i64 s.c2, .int .i64 s.c3, .slice h.a0 s.w0.length h.k0, .slice h.a1 s.w1.length h.k1, .slice h.a2 s.w2.length h.k2, .slice h.a3 s.w3.length h.k3, .slice h.ta s.timers.length h.tc, .int .i64 s.clock, .int .i64 s.procs] = sv0
  go_wp2_with fail
  go_loopw [3] (fun iv wr => ∃ k : Nat, k ≤ s.ps.length ∧ iv = .int .i64 k ∧ (∀ (j : Nat) g, s.ps[j]? = some g → j < k → s.holdP j g = true) ∧ Ext w1 wr) (fun iv _ => s.ps.length - (intOf iv).toNat)
  case atStart => exact ⟨0, by omega, rfl, fun j l _ h => by omega, Ext.refl _⟩
  case round =>
    obtain ⟨k, hk, rfl, hall, hx⟩ := hrel
    have HALL := Lib.hid hall
    have HX := Lib.hid hx
    clear hall hx
    have q2 := st2 (HX.out.blk HB1.out)
    by_cases hlt : k < s.ps.length
    · obtain ⟨p, hp⟩ : ∃ p, s.ps[k]? = some p := ⟨_, List.getElem?_eq_getElem hlt⟩
      obtain ⟨m, nx, r, sq⟩ := p
      obtain ⟨b0, b1, b2, b3, b4, b5, b6, b7, hd, nn, rfl⟩ := Ri.open8 (HK.out.buf _ (List.mem_of_getElem? hp))
      have HG := Lib.hid hp
      have HST := Lib.hid (HSTP.out k _ hp)
      obtain ⟨b, o, hA, hb, hc⟩ := ps_get (HK1.out.ext HX.out).ps hp
      obtain ⟨⟨p0, p1, p2, p3, p4, p5, p6⟩, p7, p8, p9, p10, p11, p12⟩ := hc
      obtain ⟨w3, hw3⟩ : ∃ w3, wr.alloc (.cells #[.int .i64 m, .int .i64 nx, .int .i64 b0, .int .i64 b1, .int .i64 b2, .int .i64 b3, .int .i64 b4, .int .i64 b5, .int .i64 b6, .int .i64 b7, .int .i64 hd, .int .i64 nn, .int .i64 sq] 40) = w3 := ⟨_, rfl⟩
      have HW3 := Lib.hid hw3
      have HX3 : Hid (Ext w1 w3) := Lib.hid (by rw [← hw3]; exact HX.out.alloc _)
      have HQ3 : Hid (w3.heap[wr.heap.size]? = some (.cells #[.int .i64 m, .int .i64 nx, .int .i64 b0, .int .i64 b1, .int .i64 b2, .int .i64 b3, .int .i64 b4, .int .i64 b5, .int .i64 b6, .int .i64 b7, .int .i64 hd, .int .i64 nn, .int .i64 sq] 40 (0, 0))) := Lib.hid (by rw [← hw3]; exact blk_new wr _)
      obtain ⟨mr, hmr⟩ : ∃ mr, Ri.may ⟨[b0, b1, b2, b3, b4, b5, b6, b7], hd, nn⟩ = mr := ⟨_, rfl⟩
      have HMR := Lib.hid hmr
      have HRM := Lib.hid (rrmay_k b0 b1 b2 b3 b4 b5 b6 b7 hd nn mr hmr w3)
      clear hp hb hw3 hmr
      go_upto_region 5 with fail
      rw [HW3.out]
      clear p0 p1 p2 p3 p4 p5 p6 p7 p8 p9 p10 p11 p12
      obtain ⟨⟨p0, p1, p2, p3, p4, p5, p6⟩, p7, p8, p9, p10, p11, p12⟩ := cells13 HQ3.out
      go_wp2_with fail
      refine HRM.out.mono ?_
      rintro e w4 ⟨rfl, hx4⟩
      have HX4 := Lib.hid (HX3.out.trans hx4)
      have HQ4 := Lib.hid (hx4.blk HQ3.out)
      clear p0 p1 p2 p3 p4 p5 p6 p7 p8 p9 p10 p11 p12
      clear hx4 q2 hA
      have y3 := st3 (HX4.out.blk HB1.out)
      have y15 := st15 (HX4.out.blk HB1.out)
      have z0 := blk_cell HQ4.out 0 _ rfl
      have z1 := blk_cell HQ4.out 1 _ rfl
      have z11 := blk_cell HQ4.out 11 _ rfl
      have z12 := blk_cell HQ4.out 12 _ rfl
      cases mr with
      | false =>
        have HNO : Hid (s.holds = false) := Lib.hid (HST.out (holdP_no1 HMR.out))
        go_wp2
        (go_ret; exact ⟨by rw [HNO.out] <;> rfl, HX1.out.trans HX4.out⟩)
      | true =>
      cases hlow : St.low sq with
      | false =>
        have HNO : Hid (s.holds = false) := Lib.hid (HST.out (holdP_no2 hlow))
        go_wp2_with fail
        refine (rlow_k sq false hlow _).mono ?_
        rintro e w' ⟨rfl, rfl⟩
        go_wp2
        (go_ret; exact ⟨by rw [HNO.out] <;> rfl, HX1.out.trans HX4.out⟩)
      | true =>
        go_wp2_with fail
        refine (rlow_k sq true hlow _).mono ?_
        rintro e w' ⟨rfl, rfl⟩
        by_cases a3 : m < 0
        · have HNO : Hid (s.holds = false) := Lib.hid (HST.out (holdP_no3 (by simp only; omega)))
          go_wp2
          (go_ret; exact ⟨by rw [HNO.out] <;> rfl, HX1.out.trans HX4.out⟩)
        obtain ⟨mm, rfl⟩ : ∃ mm : Nat, m = mm := ⟨m.toNat, by omega⟩
        clear a3
        by_cases a4 : s.ms.length < mm
        · have HNO : Hid (s.holds = false) := Lib.hid (HST.out (holdP_no3 (by simp only; omega)))
          have a4' : (s.ms.length : Int) < (mm : Int) := by omega
          go_wp2
          (go_ret; exact ⟨by rw [HNO.out] <;> rfl, HX1.out.trans HX4.out⟩)
        have a4' : (mm : Int) ≤ (s.ms.length : Int) := by omega
        have HM3 : Hid (0 ≤ (mm : Int) ∧ (mm : Int) ≤ s.ms.length) := Lib.hid ⟨by omega, a4'⟩
        have HLOW := Lib.hid hlow
        clear a4 hlow
        obtain rfl | ⟨j, rfl⟩ : mm = 0 ∨ ∃ j, mm = j + 1 := by cases mm <;> simp
        · simp only [Int.natCast_zero] at *
          by_cases d1 : (k : Int) < s.procs
          · have HYES : Hid (s.holdP k ⟨0, nx, ⟨[b0, b1, b2, b3, b4, b5, b6, b7], hd, nn⟩, sq⟩ = true) := Lib.hid (holdP_yes HMR.out HLOW.out HM3.out (fun h => by simp at h) (.inl d1))
            go_wp2
            go_roundw
            case rel =>
              refine ⟨k + 1, by omega, by go_num, fun i y hi hij => ?_, HX4.out⟩
              by_cases hij2 : i < k
              · exact HALL.out i y hi hij2
              · obtain rfl : i = k := by omega
                rw [← some_eq HG.out hi]
                exact HYES.out
            case measure => simp [intOf]; omega
          · by_cases d2 : nx = 0
            · subst d2
              by_cases d3 : 0 < nn
              · have HNO : Hid (s.holds = false) := Lib.hid (HST.out (holdP_no5 (by omega) (.inr (.inr d3))))
                go_wp2
                (go_ret; exact ⟨by rw [HNO.out] <;> rfl, HX1.out.trans HX4.out⟩)
              · have HYES : Hid (s.holdP k ⟨0, 0, ⟨[b0, b1, b2, b3, b4, b5, b6, b7], hd, nn⟩, sq⟩ = true) := Lib.hid (holdP_yes HMR.out HLOW.out HM3.out (fun h => by simp at h) (.inr ⟨rfl, rfl, d3⟩))
                go_wp2
                go_roundw
                case rel =>
                  refine ⟨k + 1, by omega, by go_num, fun i y hi hij => ?_, HX4.out⟩
                  by_cases hij2 : i < k
                  · exact HALL.out i y hi hij2
                  · obtain rfl : i = k := by omega
                    rw [← some_eq HG.out hi]
                    exact HYES.out
                case measure => simp [intOf]; omega
            · have HNO : Hid (s.holds = false) := Lib.hid (HST.out (holdP_no5 (by omega) (.inr (.inl d2))))
              have d2' : (nx != 0) = true := by simpa using d2
              clear d2
              go_wp2
              (go_ret; exact ⟨by rw [HNO.out] <;> rfl, HX1.out.trans HX4.out⟩)
        · obtain ⟨x, hx⟩ : ∃ x, s.ms[j]? = some x := ⟨_, List.getElem?_eq_getElem (by omega)⟩
          obtain ⟨bm, om, hAm, hbm, c0, c1⟩ := frs2_get (HK1.out.ext HX4.out).ms hx
          have HMX : Hid ((s.ms.getD (((j + 1 : Nat) : Int) - 1).toNat (0, 0)).1 = x.1) := Lib.hid (by
            rw [show (((j + 1 : Nat) : Int) - 1).toNat = j by omega, List.getD, hx]; rfl)
          have e1 : ((j + 1 : Nat) : Int) - 1 = (j : Int) := by omega
          have e2 : max (j : Int) 0 = (j : Int) := by omega
          have e3 : (0 : Int) < ((j + 1 : Nat) : Int) := by omega
          have e4 : (j : Int) < (s.ms.length : Int) := by omega
          obtain ⟨xp, xg⟩ := x
          simp only at HMX c0
          clear hx hbm c1
          by_cases d0 : xp = (k : Int) + 1
          · subst d0
            by_cases d1 : (k : Int) < s.procs
            · have HYES : Hid (s.holdP k ⟨((j + 1 : Nat) : Int), nx, ⟨[b0, b1, b2, b3, b4, b5, b6, b7], hd, nn⟩, sq⟩ = true) := Lib.hid (holdP_yes HMR.out HLOW.out HM3.out (fun _ => HMX.out) (.inl d1))
              go_wp2
              go_roundw
              case rel =>
                refine ⟨k + 1, by omega, by go_num, fun i y hi hij => ?_, HX4.out⟩
                by_cases hij2 : i < k
                · exact HALL.out i y hi hij2
                · obtain rfl : i = k := by omega
                  rw [← some_eq HG.out hi]
                  exact HYES.out
              case measure => simp [intOf]; omega
            · have HNO : Hid (s.holds = false) := Lib.hid (HST.out (holdP_no5 (by omega) (.inl (by simp only; omega))))
              go_wp2
              (go_ret; exact ⟨by rw [HNO.out] <;> rfl, HX1.out.trans HX4.out⟩)
          · have HNO : Hid (s.holds = false) := Lib.hid (HST.out (holdP_no4 (fun h => d0 (by have := h (by simp only; omega); simp only [HMX.out] at this; exact this))))
            have d0' : (xp != (k : Int) + 1) = true := by simpa using d0
            clear d0
            go_wp2
            (go_ret; exact ⟨by rw [HNO.out] <;> rfl, HX1.out.trans HX4.out⟩)
    · obtain rfl : k = s.ps.length := by omega
      have HP : Hid (allIx s.holdP 0 s.ps = true) := Lib.hid (allIx_yes fun j l hj => HALL.out j l hj (List.getElem?_eq_some_iff.1 hj).1)
      clear HALL
      obtain ⟨wo, rfl⟩ : ∃ wo, wo = wr := ⟨_, rfl⟩
      go_wp2_with fail
      clear q2
      generalize Value.slice h.qa s.ps.length h.qc = sv9
      go_loopw [5] (fun iv wr => ∃ k : Nat, k ≤ s.ms.length ∧ iv = .int .i64 k ∧ (∀ (j : Nat) g, s.ms[j]? = some g → j < k → s.holdM j g = true) ∧ Ext w1 wr) (fun iv _ => s.ms.length - (intOf iv).toNat)
      case atStart => exact ⟨0, by omega, rfl, fun j l _ h => by omega, HX.out⟩
      case round =>
        clear HX
        obtain ⟨k, hk, rfl, hall, hx⟩ := hrel
        have HALL := Lib.hid hall
        have HX := Lib.hid hx
        clear hall hx
        have q3 := st3 (HX.out.blk HB1.out)
        by_cases hlt : k < s.ms.length
        · obtain ⟨x, hx⟩ : ∃ x, s.ms[k]? = some x := ⟨_, List.getElem?_eq_getElem hlt⟩
          have HG := Lib.hid hx
          have HST := Lib.hid (HSTM.out k _ hx)
          obtain ⟨b, o, hA, hb, c0, c1⟩ := frs2_get (HK1.out.ext HX.out).ms hx
          obtain ⟨m, g⟩ := x
          simp only at c0 c1
          obtain ⟨w3, hw3⟩ : ∃ w3, wr.alloc (.cells #[.int .i64 m, .int .i64 g] 57) = w3 := ⟨_, rfl⟩
          have HW3 := Lib.hid hw3
          have HX4 : Hid (Ext w1 w3) := Lib.hid (by rw [← hw3]; exact HX.out.alloc _)
          have hq : w3.heap[wr.heap.size]? = some (.cells #[.int .i64 m, .int .i64 g] 57 (0, 0)) := by rw [← hw3]; exact blk_new wr _
          have z0 := blk_cell hq 0 _ rfl
          have y2 := st2 (HX4.out.blk HB1.out)
          clear hx hb hw3 hq
          by_cases a3 : m < 0
          · have HNO : Hid (s.holds = false) := Lib.hid (HST.out (by unfold St.holdM; rw [decide_eq_false (by simp only; omega)]; rfl))
            go_wp2_with (rw [HW3.out])
            (go_ret; exact ⟨by rw [HNO.out] <;> rfl, HX1.out.trans HX4.out⟩)
          have a3' : 0 ≤ m := by omega
          clear a3
          by_cases a4 : (s.ps.length : Int) < m
          · have HNO : Hid (s.holds = false) := Lib.hid (HST.out (by unfold St.holdM; rw [decide_eq_false (by simp only; omega)]; rfl))
            go_wp2_with (rw [HW3.out])
            (go_ret; exact ⟨by rw [HNO.out] <;> rfl, HX1.out.trans HX4.out⟩)
          have a4' : m ≤ (s.ps.length : Int) := by omega
          have HM3 : Hid (0 ≤ m ∧ m ≤ s.ps.length) := Lib.hid ⟨a3', a4'⟩
          clear a4
          obtain rfl | ⟨j, rfl⟩ : m = 0 ∨ ∃ j : Nat, m = (j : Int) + 1 := by
            by_cases h : m = 0
            · exact .inl h
            · exact .inr ⟨(m - 1).toNat, by omega⟩
          · have HYES : Hid (s.holdM k (0, g) = true) := Lib.hid (by unfold St.holdM; rw [decide_eq_true HM3.out, decide_eq_true (fun h => by simp at h)]; rfl)
            go_wp2_with (rw [HW3.out])
            go_roundw
            case rel =>
              refine ⟨k + 1, by omega, by go_num, fun i y hi hij => ?_, HX4.out⟩
              by_cases hij2 : i < k
              · exact HALL.out i y hi hij2
              · obtain rfl : i = k := by omega
                rw [← some_eq HG.out hi]
                exact HYES.out
            case measure => simp [intOf]; omega
          · obtain ⟨p, hp⟩ : ∃ p, s.ps[j]? = some p := ⟨_, List.getElem?_eq_getElem (by omega)⟩
            obtain ⟨pm, nx, r, sq⟩ := p
            obtain ⟨b0, b1, b2, b3, b4, b5, b6, b7, hd, nn, rfl⟩ := Ri.open8 (HK.out.buf _ (List.mem_of_getElem? hp))
            obtain ⟨bp, op, hAp, hbp, hcp⟩ := ps_get (HK1.out.ext HX4.out).ps hp
            have c0' := hcp.1.1
            have HMX : Hid ((s.ps.getD ((j : Int) + 1 - 1).toNat St.nilP).m = pm) := Lib.hid (by
              rw [show ((j : Int) + 1 - 1).toNat = j by omega, List.getD, hp]; rfl)
            have e1 : (j : Int) + 1 - 1 = (j : Int) := by omega
            have e2 : max (j : Int) 0 = (j : Int) := by omega
            have e3 : (0 : Int) < ((j : Int) + 1) := by omega
            have e4 : (j : Int) < (s.ps.length : Int) := by omega
            clear hcp hp hbp
            by_cases d0 : pm = (k : Int) + 1
            · subst d0
              have HYES : Hid (s.holdM k (((j : Int) + 1), g) = true) := Lib.hid (by unfold St.holdM; rw [decide_eq_true HM3.out, decide_eq_true (fun _ => HMX.out)]; rfl)
              go_wp2_with (rw [HW3.out])
              go_roundw
              case rel =>
                refine ⟨k + 1, by omega, by go_num, fun i y hi hij => ?_, HX4.out⟩
                by_cases hij2 : i < k
                · exact HALL.out i y hi hij2
                · obtain rfl : i = k := by omega
                  rw [← some_eq HG.out hi]
                  exact HYES.out
              case measure => simp [intOf]; omega
            · have HNO : Hid (s.holds = false) := Lib.hid (HST.out (by
                unfold St.holdM
                rw [decide_eq_false (p := 0 < ((((j : Int) + 1), g) : Int × Int).1 → _) (fun h => d0 (by have := h (by simp only; omega); simp only [HMX.out] at this; exact this)), Bool.and_false]))
              have d0' : (pm != (k : Int) + 1) = true := by simpa using d0
              clear d0
              go_wp2_with (rw [HW3.out])
              (go_ret; exact ⟨by rw [HNO.out] <;> rfl, HX1.out.trans HX4.out⟩)
        · obtain rfl : k = s.ms.length := by omega
          have HY : Hid (s.holds = true) := Lib.hid (by unfold St.holds; rw [HP.out, allIx_yes fun j l hj => HALL.out j l hj (List.getElem?_eq_some_iff.1 hj).1]; rfl)
          go_wp2
          go_ret
          exact ⟨by rw [HY.out] <;> rfl, HX1.out.trans HX.out⟩
end Go.Proofs.Ytogcfndhcphpaaa
/-
  The program's May of states, I: within, mayNumber, mayGs.
-/
set_option linter.unusedVariables false
set_option linter.unusedSimpArgs false
namespace Go.Proofs.Ytogcfndhcphpaaa
open Go.RowKit

def wiB (n lo hi : Int) : Bool := decide (lo ≤ n ∧ n ≤ hi)
theorem wiB_yes {n lo hi : Int} (h : lo ≤ n) (h2 : n ≤ hi) : wiB n lo hi = true := decide_eq_true ⟨h, h2⟩
theorem wiB_no {n lo hi : Int} (h : ¬ (lo ≤ n ∧ n ≤ hi)) : wiB n lo hi = false := decide_eq_false h
theorem wiB_iff {n lo hi : Int} : wiB n lo hi = true ↔ lo ≤ n ∧ n ≤ hi := by unfold wiB; exact decide_eq_true_iff
set_option maxHeartbeats 1000000 in
theorem swithin_any (n lo hi : Int) (w : World) : Calls Try.prog 102 #[.int .i64 n, .int .i64 lo, .int .i64 hi] w fun e w' => e = .returned (.bool (wiB n lo hi)) ∧ w' = w := by
  by_cases h0 : lo ≤ n
  · by_cases h1 : n ≤ hi
    · rw [wiB_yes h0 h1]
      go_enter Try.func102, Try.ntmps102
      go_wp2
      go_ret
      exact ⟨rfl, rfl⟩
    · rw [wiB_no (fun h => h1 h.2)]
      have h1' : decide (n ≤ hi) = false := by simpa using h1
      clear h1
      go_enter Try.func102, Try.ntmps102
      go_wp2
      go_ret
      exact ⟨rfl, rfl⟩
  · rw [wiB_no (fun h => h0 h.1)]
    have h0' : decide (lo ≤ n) = false := by simpa using h0
    clear h0
    go_enter Try.func102, Try.ntmps102
    go_wp2
    go_ret
    exact ⟨rfl, rfl⟩
theorem low_wiB (n : Int) : wiB n 0 2305843009213693951 = St.low n := by
  unfold wiB St.low
  congr 1
  simp only [eq_iff_iff]
  omega
set_option maxHeartbeats 1000000 in
theorem smayNumber_any (n : Int) (w : World) : Calls Try.prog 103 #[.int .i64 n] w fun e w' => e = .returned (.bool (St.low n)) ∧ w' = w := by
  have H := Lib.hid (swithin_any n 0 2305843009213693951 w)
  rw [low_wiB] at H
  generalize St.low n = b at *
  go_enter Try.func103, Try.ntmps103
  go_wp2_with fail
  refine H.out.mono ?_
  rintro e w' ⟨rfl, rfl⟩
  go_wp2
  go_ret
  exact ⟨rfl, rfl⟩
/-- What the program asks of a G. -/
def St.pGood (s : St) (g : Gr) : Bool := s.good g && wiB g.st 1 5
set_option maxRecDepth 100000 in
set_option maxHeartbeats 8000000 in
theorem smayGs_any (h : StH) (s : St) (r : Bool) (hr : s.gs.all s.pGood = r) (w : World) (hk : StOk w h s) (hf : StFew s) : Calls Try.prog 44 #[stV h s] w fun e w' => e = .returned (.bool r) ∧ Ext w w' := by
  subst hr
  have f1 := hf.gs
  have f2 := hf.prog.1
  have HPL := Lib.hid hf.prog.2
  have HWI : Hid (∀ (n lo hi : Int) (w : World), Calls Try.prog 102 #[.int .i64 n, .int .i64 lo, .int .i64 hi] w fun e w' => e = .returned (.bool (wiB n lo hi)) ∧ w' = w) := Lib.hid swithin_any
  have HK := Lib.hid hk
  obtain ⟨w1, hw1⟩ : ∃ w1, w.alloc (.cells #[.slice h.pa s.prog.length h.pc, .slice h.ga s.gs.length h.gc, .slice h.qa s.ps.length h.qc, .slice h.ma s.ms.length h.mc, .slice h.la s.glob.length h.lc, .int .i64 s.c0, .int .i64 s.c1, .int .i64 s.c2, .int .i64 s.c3, .slice h.a0 s.w0.length h.k0, .slice h.a1 s.w1.length h.k1, .slice h.a2 s.w2.length h.k2, .slice h.a3 s.w3.length h.k3, .slice h.ta s.timers.length h.tc, .int .i64 s.clock, .int .i64 s.procs] 32) = w1 := ⟨_, rfl⟩
  have HX1 : Hid (Ext w w1) := Lib.hid (by rw [← hw1]; exact (Ext.refl w).alloc _)
  have HB1 : Hid (w1.heap[w.heap.size]? = some (.cells (stC h s) 32 (0, 0))) := Lib.hid (by rw [← hw1]; exact blk_new w _)
  have HK1 := Lib.hid (hk.ext HX1.out)
  have HW1 := Lib.hid hw1
  clear hw1 hk
  clear hf
  have q1a := st1 HB1.out
  unfold stV
  go_enter Try.func44, Try.ntmps44
  go_upto_region 1 with fail
  rw [HW1.out]
  generalize Value.agg #[.slice h.pa s.prog.length h.pc, .slice h.ga s.gs.length h.gc, .slice h.qa s.ps.length h.qc, .slice h.ma s.ms.length h.mc, .slice h.la s.glob.length h.lc, .int .i64 s.c0, .int .i64 s.c1, .int .i64 s.c2, .int .i64 s.c3, .slice h.a0 s.w0.length h.k0, .slice h.a1 s.w1.length h.k1, .slice h.a2 s.w2.length h.k2, .slice h.a3 s.w3.length h.k3, .slice h.ta s.timers.length h.tc, .int .i64 s.clock, .int .i64 s.procs] = sv0
  go_wp2_with fail
  clear q1a
  obtain ⟨ga, hga⟩ : ∃ ga, h.ga = ga := ⟨_, rfl⟩
  have HGA := Lib.hid hga
  rw [hga]
  clear hga
  go_loopw [8] (fun iv wr => ∃ k : Nat, k ≤ s.gs.length ∧ iv = .int .i64 k ∧ (∀ (j : Nat) g, s.gs[j]? = some g → j < k → s.pGood g = true) ∧ Ext w1 wr) (fun iv _ => s.gs.length - (intOf iv).toNat)
  case atStart => exact ⟨0, by omega, rfl, fun j l _ h => by omega, Ext.refl _⟩
  case round =>
    obtain ⟨k, hk, rfl, hall, hx⟩ := hrel
    have HALL := Lib.hid hall
    have HX := Lib.hid hx
    clear hall hx
    by_cases hlt : k < s.gs.length
    · obtain ⟨g, hg⟩ : ∃ g, s.gs[k]? = some g := ⟨_, List.getElem?_eq_getElem hlt⟩
      have HG := Lib.hid hg
      have HST : Hid (s.pGood g = false → s.gs.all s.pGood = false) := Lib.hid fun h => all_no hg h
      obtain ⟨b, o, hA, hb, p0, p1, p2, p3, p4⟩ := gs_get (HK1.out.ext HX.out).gs hg
      rw [HGA.out] at hA
      subst hA
      obtain ⟨fn, pc, st, m, sq⟩ := g
      simp only at p0 p1 p2 p3 p4
      obtain ⟨w3, hw3⟩ : ∃ w3, wr.alloc (.cells #[.int .i64 fn, .int .i64 pc, .int .i64 st, .int .i64 m, .int .i64 sq] 55) = w3 := ⟨_, rfl⟩
      have HW3 := Lib.hid hw3
      have HX3 : Hid (Ext w1 w3) := Lib.hid (by rw [← hw3]; exact HX.out.alloc _)
      have HQ : Hid (w3.heap[wr.heap.size]? = some (.cells #[.int .i64 fn, .int .i64 pc, .int .i64 st, .int .i64 m, .int .i64 sq] 55 (0, 0))) := Lib.hid (by rw [← hw3]; exact blk_new wr _)
      clear hg hb hw3
      go_upto_region 4 with fail
      rw [HW3.out]
      clear p0 p1 p2 p3 p4
      have z0 := blk_cell HQ.out 0 _ rfl
      have z1 := blk_cell HQ.out 1 _ rfl
      have y0 := st0 (HX3.out.blk HB1.out)
      have e0 : IntKind.i64.wrap ((s.prog.length : Int) - 1) = (s.prog.length : Int) - 1 := IntWalk.i64_in _ (by omega)
      cases b1 : wiB fn 0 ((s.prog.length : Int) - 1) with
      | false =>
        have HNO : Hid (s.gs.all s.pGood = false) := Lib.hid (HST.out (by
          unfold St.pGood St.good
          have hn : ¬ (0 ≤ fn ∧ fn ≤ (s.prog.length : Int) - 1) := fun h => by rw [wiB_iff.2 h] at b1; cases b1
          rw [decide_eq_false (by simp only; omega)]
          rfl))
        go_quiet ((go_at_call 102; exact Calls.quiet_of_same (HWI.out _ _ _ _)))
        go_wp2
        (go_ret; exact ⟨by rw [HNO.out] <;> rfl, HX1.out.trans (HX3.out.drewN _)⟩)
      | true =>
        obtain ⟨fb1, fb2⟩ := wiB_iff.1 b1
        obtain ⟨f, rfl⟩ : ∃ f : Nat, fn = f := ⟨fn.toNat, by omega⟩
        obtain ⟨l, hl⟩ : ∃ l, s.prog[f]? = some l := ⟨_, List.getElem?_eq_getElem (by omega)⟩
        obtain ⟨b2, o2, B, d, hA2, hb2, hcu, hrow⟩ := (HK1.out.ext HX3.out).prog.get hl
        have hll := HPL.out l (List.mem_of_getElem? hl)
        have i0 : (0 : Int) ≤ (f : Int) := by omega
        have i1 : (f : Int) < (s.prog.length : Int) := by omega
        have HGD : Hid (s.pGood ⟨f, pc, st, m, sq⟩ = (decide (0 ≤ pc ∧ pc ≤ (l.length : Int)) && St.low sq && wiB st 1 5)) := Lib.hid (by
          unfold St.pGood St.good
          simp only [List.getD, Int.toNat_natCast, hl, Option.getD_some]
          by_cases hp : 0 ≤ pc
          · rw [decide_eq_true (show 0 ≤ (f : Int) ∧ (f : Int) < (s.prog.length : Int) ∧ 0 ≤ pc by omega)]
            by_cases hp2 : pc ≤ (l.length : Int)
            · rw [decide_eq_true hp2, decide_eq_true (show 0 ≤ pc ∧ pc ≤ (l.length : Int) from ⟨hp, hp2⟩)]
              simp
            · rw [decide_eq_false hp2, decide_eq_false (show ¬ (0 ≤ pc ∧ pc ≤ (l.length : Int)) from fun h => hp2 h.2)]
              simp
          · rw [decide_eq_false (show ¬ (0 ≤ (f : Int) ∧ (f : Int) < (s.prog.length : Int) ∧ 0 ≤ pc) from fun h => hp h.2.2), decide_eq_false (show ¬ (0 ≤ pc ∧ pc ≤ (l.length : Int)) from fun h => hp h.1)]
            rfl)
        clear fb1 fb2 hb2 hrow hl
        cases bb : wiB pc 0 (l.length : Int) with
        | false =>
          have HNO : Hid (s.gs.all s.pGood = false) := Lib.hid (HST.out (by
            rw [HGD.out, decide_eq_false (fun h => by rw [wiB_iff.2 h] at bb; cases bb)]; rfl))
          go_quiet ((go_at_call 102; exact Calls.quiet_of_same (HWI.out _ _ _ _)))
          go_wp2
          (go_ret; exact ⟨by rw [HNO.out] <;> rfl, HX1.out.trans (HX3.out.drewN _)⟩)
        | true =>
          have HPC := Lib.hid (wiB_iff.1 bb)
          go_quiet ((go_at_call 102; exact Calls.quiet_of_same (HWI.out _ _ _ _)))
          clear z0 z1 y0 hA2 hcu e0 b1 bb
          have z2 := blk_cell (((Ext.refl w3).drewN nq).blk HQ.out) 2 _ rfl
          have z4 := blk_cell (((Ext.refl w3).drewN nq).blk HQ.out) 4 _ rfl
          have HXD : Hid (Ext w1 (w3.drewN nq)) := Lib.hid (HX3.out.drewN _)
          obtain ⟨wd, hwd⟩ : ∃ wd, w3.drewN nq = wd := ⟨_, rfl⟩
          rw [hwd] at z2 z4 HXD ⊢
          clear hwd
          go_wp2_with fail
          refine (HWI.out st 1 5 _).mono ?_
          rintro e w' ⟨rfl, rfl⟩
          cases bs : wiB st 1 5 with
          | false =>
            have HNO : Hid (s.gs.all s.pGood = false) := Lib.hid (HST.out (by rw [HGD.out, bs, Bool.and_false]))
            go_wp2
            go_ret
            exact ⟨by rw [HNO.out] <;> rfl, HX1.out.trans HXD.out⟩
          | true =>
            go_wp2_with fail
            refine (smayNumber_any sq _).mono ?_
            rintro e w' ⟨rfl, rfl⟩
            cases bl : St.low sq with
            | false =>
              have HNO : Hid (s.gs.all s.pGood = false) := Lib.hid (HST.out (by rw [HGD.out, bl, Bool.and_false]; rfl))
              go_wp2
              go_ret
              exact ⟨by rw [HNO.out] <;> rfl, HX1.out.trans HXD.out⟩
            | true =>
              have HYES : Hid (s.pGood ⟨f, pc, st, m, sq⟩ = true) := Lib.hid (by rw [HGD.out, bl, bs, decide_eq_true HPC.out]; rfl)
              go_wp2
              go_roundw
              case rel =>
                refine ⟨k + 1, by omega, by go_num, fun i y hi hij => ?_, HXD.out⟩
                by_cases hij2 : i < k
                · exact HALL.out i y hi hij2
                · obtain rfl : i = k := by omega
                  rw [← some_eq HG.out hi]
                  exact HYES.out
              case measure => simp [intOf]; omega
    · obtain rfl : k = s.gs.length := by omega
      have HY : Hid (s.gs.all s.pGood = true) := Lib.hid (all_yes fun j l hj => HALL.out j l hj (List.getElem?_eq_some_iff.1 hj).1)
      go_wp2
      go_ret
      exact ⟨by rw [HY.out] <;> rfl, HX1.out.trans HX.out⟩
end Go.Proofs.Ytogcfndhcphpaaa
/-
  Whether a G and its M agree.
-/
set_option linter.unusedVariables false
set_option linter.unusedSimpArgs false
namespace Go.Proofs.Ytogcfndhcphpaaa
open Go.RowKit

/-- Whether a G and its M agree, as the program asks it. -/
def St.holdG (s : St) (i : Nat) (g : Gr) : Bool :=
  if g.st ≠ 2 ∧ g.st ≠ 4 then g.m == 0 else wiB g.m 1 s.ms.length && ((s.ms.getD (g.m - 1).toNat (0, 0)).2 == (i : Int) + 1 && (((s.ms.getD (g.m - 1).toNat (0, 0)).1 != 0) == (g.st == 2)))
set_option maxRecDepth 100000 in
set_option maxHeartbeats 8000000 in
theorem smayHold_any (h : StH) (s : St) (k : Nat) (g : Gr) (hg : s.gs[k]? = some g) (r : Bool) (hr : s.holdG k g = r) (w : World) (hk : StOk w h s) (hf : StFew s) : Calls Try.prog 107 #[stV h s, .int .i64 ((k : Int) + 1)] w fun e w' => e = .returned (.bool r) ∧ Ext w w' := by
  have f1 := hf.gs
  have f2 := hf.ms
  have hlt : k < s.gs.length := (List.getElem?_eq_some_iff.1 hg).1
  have hkb : (k : Int) < (s.gs.length : Int) := by omega
  have HK := Lib.hid hk
  obtain ⟨w1, hw1⟩ : ∃ w1, w.alloc (.cells #[.slice h.pa s.prog.length h.pc, .slice h.ga s.gs.length h.gc, .slice h.qa s.ps.length h.qc, .slice h.ma s.ms.length h.mc, .slice h.la s.glob.length h.lc, .int .i64 s.c0, .int .i64 s.c1, .int .i64 s.c2, .int .i64 s.c3, .slice h.a0 s.w0.length h.k0, .slice h.a1 s.w1.length h.k1, .slice h.a2 s.w2.length h.k2, .slice h.a3 s.w3.length h.k3, .slice h.ta s.timers.length h.tc, .int .i64 s.clock, .int .i64 s.procs] 32) = w1 := ⟨_, rfl⟩
  have HX1 : Hid (Ext w w1) := Lib.hid (by rw [← hw1]; exact (Ext.refl w).alloc _)
  have HB1 : Hid (w1.heap[w.heap.size]? = some (.cells (stC h s) 32 (0, 0))) := Lib.hid (by rw [← hw1]; exact blk_new w _)
  have HK1 := Lib.hid (hk.ext HX1.out)
  have HW1 := Lib.hid hw1
  clear hw1 hk
  clear hf
  obtain ⟨b, o, hA, hb, p0, p1, p2, p3, p4⟩ := gs_get HK1.out.gs hg
  obtain ⟨fn, pc, st, m, sq⟩ := g
  simp only at p0 p1 p2 p3 p4
  have HR := Lib.hid hr
  obtain ⟨w3, hw3⟩ : ∃ w3, w1.alloc (.cells #[.int .i64 fn, .int .i64 pc, .int .i64 st, .int .i64 m, .int .i64 sq] 55) = w3 := ⟨_, rfl⟩
  have HW3 := Lib.hid hw3
  have HX3 : Hid (Ext w1 w3) := Lib.hid (by rw [← hw3]; exact (Ext.refl w1).alloc _)
  have HQ3 : Hid (w3.heap[w1.heap.size]? = some (.cells #[.int .i64 fn, .int .i64 pc, .int .i64 st, .int .i64 m, .int .i64 sq] 55 (0, 0))) := Lib.hid (by rw [← hw3]; exact blk_new w1 _)
  have q1 := st1 HB1.out
  have e1 : (k : Int) + 1 - 1 = (k : Int) := by omega
  have HA := Lib.hid hA
  clear hg hb hw3 hA hr
  unfold stV
  go_enter Try.func107, Try.ntmps107
  go_upto_region 1 with fail
  rw [HW1.out]
  generalize Value.agg #[.slice h.pa s.prog.length h.pc, .slice h.ga s.gs.length h.gc, .slice h.qa s.ps.length h.qc, .slice h.ma s.ms.length h.mc, .slice h.la s.glob.length h.lc, .int .i64 s.c0, .int .i64 s.c1, .int .i64 s.c2, .int .i64 s.c3, .slice h.a0 s.w0.length h.k0, .slice h.a1 s.w1.length h.k1, .slice h.a2 s.w2.length h.k2, .slice h.a3 s.w3.length h.k3, .slice h.ta s.timers.length h.tc, .int .i64 s.clock, .int .i64 s.procs] = sv0
  have hA := HA.out
  go_upto_region 2 with fail
  rw [HW3.out]
  clear q1 hA p0 p1 p2 p3 p4
  have z0 := blk_cell HQ3.out 2 _ rfl
  have z3 := blk_cell HQ3.out 3 _ rfl
  have q3 := st3 (HX3.out.blk HB1.out)
  by_cases hs : st ≠ 2 ∧ st ≠ 4
  · have e2 : (st != 2) = true := by simpa using hs.1
    have e4 : (st != 4) = true := by simpa using hs.2
    have HR2 : Hid ((m == 0) = r) := Lib.hid (by have := HR.out; unfold St.holdG at this; rwa [if_pos hs] at this)
    clear hs
    have hm := HR2.out
    go_wp2
    go_ret
    exact ⟨rfl, HX1.out.trans HX3.out⟩
  · have HR2 : Hid ((wiB m 1 s.ms.length && ((s.ms.getD (m - 1).toNat (0, 0)).2 == (k : Int) + 1 && (((s.ms.getD (m - 1).toNat (0, 0)).1 != 0) == (st == 2)))) = r) := Lib.hid (by have := HR.out; unfold St.holdG at this; rwa [if_neg hs] at this)
    have h24 : st = 2 ∨ st = 4 := by omega
    have H24 : Hid ((st != 2 && st != 4) = false) := Lib.hid (by rcases h24 with h | h <;> subst h <;> rfl)
    obtain ⟨b2, hb2⟩ : ∃ b2, (st != 2) = b2 := ⟨_, rfl⟩
    obtain ⟨b4, hb4⟩ : ∃ b4, (st != 4) = b4 := ⟨_, rfl⟩
    have hand : (b2 && b4) = false := by rw [← hb2, ← hb4]; exact H24.out
    obtain ⟨bs, hbs⟩ : ∃ bs, (st == 2) = bs := ⟨_, rfl⟩
    rw [hbs] at HR2
    clear hs h24
    have HWI := Lib.hid (swithin_any m 1 (s.ms.length : Int))
    cases bb : wiB m 1 (s.ms.length : Int) with
    | false =>
      obtain rfl : r = false := by have := HR2.out; rw [bb] at this; exact this.symm
      cases b2 <;> cases b4 <;> first | (exfalso; simp at hand; done) | skip
      all_goals
        clear hand hbs
        go_wp2_with fail
        refine (HWI.out _).mono ?_
        rintro e w' ⟨rfl, rfl⟩
        go_wp2
        go_ret
        exact ⟨rfl, HX1.out.trans HX3.out⟩
    | true =>
      obtain ⟨fb1, fb2⟩ := wiB_iff.1 bb
      obtain ⟨j, hj⟩ : ∃ j : Nat, m = (j : Int) + 1 := ⟨(m - 1).toNat, by omega⟩
      subst hj
      obtain ⟨x, hx⟩ : ∃ x, s.ms[j]? = some x := ⟨_, List.getElem?_eq_getElem (by omega)⟩
      obtain ⟨bm, om, hAm, hbm, c0, c1⟩ := frs2_get (HK1.out.ext HX3.out).ms hx
      have HR3 : Hid ((x.2 == (k : Int) + 1 && ((x.1 != 0) == bs)) = r) := Lib.hid (by
        have := HR2.out
        rw [bb, Bool.true_and, show ((j : Int) + 1 - 1).toNat = j by omega, List.getD, hx] at this
        exact this)
      have e6 : (j : Int) + 1 - 1 = (j : Int) := by omega
      have e7 : (j : Int) < (s.ms.length : Int) := by omega
      obtain ⟨xp, xg⟩ := x
      simp only at HR3 c0 c1
      obtain ⟨w5, hw5⟩ : ∃ w5, w3.alloc (.cells #[.int .i64 xp, .int .i64 xg] 57) = w5 := ⟨_, rfl⟩
      have HW5 := Lib.hid hw5
      have HX5 : Hid (Ext w1 w5) := Lib.hid (by rw [← hw5]; exact HX3.out.alloc _)
      have hq5 : w5.heap[w3.heap.size]? = some (.cells #[.int .i64 xp, .int .i64 xg] 57 (0, 0)) := by rw [← hw5]; exact blk_new w3 _
      have u0 := blk_cell hq5 0 _ rfl
      have u1 := blk_cell hq5 1 _ rfl
      have u2 : w5.cell? ⟨w1.heap.size, 2, none⟩ = some (.int .i64 st) := by rw [← hw5]; exact blk_cell (blk_alloc HQ3.out _) 2 _ rfl
      clear hw5 hq5
      obtain ⟨bp, hbp⟩ : ∃ bp, (xp != 0) = bp := ⟨_, rfl⟩
      obtain ⟨bg, hbg⟩ : ∃ bg, (xg == (k : Int) + 1) = bg := ⟨_, rfl⟩
      obtain ⟨be, hbe⟩ : ∃ be, (bp == bs) = be := ⟨_, rfl⟩
      rw [hbg, hbp, hbe] at HR3
      clear hx hbm
      cases b2 <;> cases b4 <;> first | (exfalso; simp at hand; done) | skip
      all_goals
        clear hand
        cases bg with
        | false =>
          obtain rfl : r = false := HR3.out.symm
          go_wp2_with fail
          refine (HWI.out _).mono ?_
          rintro e w' ⟨rfl, rfl⟩
          go_wp2_with (rw [HW5.out])
          go_ret
          exact ⟨rfl, HX1.out.trans HX5.out⟩
        | true =>
          have hrr : r = (bp == bs) := by have := HR3.out; rw [← hbe] at this; simpa using this.symm
          clear HR3 hbe
          cases bp <;> cases bs
          all_goals
            subst hrr
            go_wp2_with fail
            refine (HWI.out _).mono ?_
            rintro e w' ⟨rfl, rfl⟩
            go_wp2_with (rw [HW5.out])
            go_ret
            exact ⟨rfl, HX1.out.trans HX5.out⟩
end Go.Proofs.Ytogcfndhcphpaaa
/-
  Where a G of a status is wanted.
-/
set_option linter.unusedVariables false
set_option linter.unusedSimpArgs false
namespace Go.Proofs.Ytogcfndhcphpaaa
open Go.RowKit

/-- How often a G of a status is to occur: in queues, among those that wait, on Ms. -/
def St.wanted (st : Int) : Int × Int × Int := if st = 1 then (1, 0, 0) else if st = 3 then (0, 1, 0) else if st = 2 ∨ st = 4 then (0, 0, 1) else (0, 0, 0)
def spotV (q : Int × Int × Int) : Value := .agg #[.int .i64 q.1, .int .i64 q.2.1, .int .i64 q.2.2]
theorem ret_spot {a : Act} {w0 w : World} {x y z : Int} (hp : a.tmps.getD 2 undef = .pointer (some ⟨w0.heap.size, 0, none⟩)) (hd : a.defers = []) (hb : w.heap[w0.heap.size]? = some (.cells #[.int .i64 x, .int .i64 y, .int .i64 z] 115 (0, 0))) (hx : Ext w0 w) {q : Int × Int × Int} (hq : q = (x, y, z)) :
    bodyPost Try.prog Try.f106 (fun e w' => e = .returned (spotV q) ∧ Ext w0 w') .ret a w := by
  subst hq
  exact bodyPost_ret (v := .agg #[.int .i64 x, .int .i64 y, .int .i64 z]) (results_cell_row rfl _ _ w0.heap.size _ _ _ _ hp hb Try.underlying115 rfl (by kernel_rfl)) hd ⟨rfl, hx⟩
set_option maxRecDepth 100000 in
set_option maxHeartbeats 2000000 in
theorem swanted_any (st : Int) (w : World) : Calls Try.prog 106 #[.int .i64 st] w fun e w' => e = .returned (spotV (St.wanted st)) ∧ Ext w w' := by
  by_cases h1 : st = 1
  · subst h1
    have HQ : Hid (St.wanted 1 = (1, 0, 0)) := Lib.hid (by unfold St.wanted; rw [if_pos rfl])
    go_enter Try.func106, Try.ntmps106
    go_wp2
    exact ret_spot rfl rfl (blk_new w _) ((Ext.refl w).alloc _) HQ.out
  · have e1 : (st == 1) = false := by simpa using h1
    by_cases h3 : st = 3
    · subst h3
      have HQ : Hid (St.wanted 3 = (0, 1, 0)) := Lib.hid (by unfold St.wanted; rw [if_neg (by decide), if_pos rfl])
      clear h1 e1
      go_enter Try.func106, Try.ntmps106
      go_wp2
      exact ret_spot rfl rfl (blk_new w _) ((Ext.refl w).alloc _) HQ.out
    · have e3 : (st == 3) = false := by simpa using h3
      by_cases h2 : st = 2
      · subst h2
        have HQ : Hid (St.wanted 2 = (0, 0, 1)) := Lib.hid (by unfold St.wanted; rw [if_neg (by decide), if_neg (by decide), if_pos (.inl rfl)])
        clear h1 e1 h3 e3
        go_enter Try.func106, Try.ntmps106
        go_wp2
        exact ret_spot rfl rfl (blk_new w _) ((Ext.refl w).alloc _) HQ.out
      · have e2 : (st == 2) = false := by simpa using h2
        by_cases h4 : st = 4
        · subst h4
          have HQ : Hid (St.wanted 4 = (0, 0, 1)) := Lib.hid (by unfold St.wanted; rw [if_neg (by decide), if_neg (by decide), if_pos (.inr rfl)])
          clear h1 e1 h3 e3 h2 e2
          go_enter Try.func106, Try.ntmps106
          go_wp2
          exact ret_spot rfl rfl (blk_new w _) ((Ext.refl w).alloc _) HQ.out
        · have e4 : (st == 4) = false := by simpa using h4
          have HQ : Hid (St.wanted st = (0, 0, 0)) := Lib.hid (by unfold St.wanted; rw [if_neg h1, if_neg h3, if_neg (by omega)])
          clear h1 h2 h3 h4
          go_enter Try.func106, Try.ntmps106
          go_wp2
          exact ret_spot rfl rfl (blk_new w _) ((Ext.refl w).alloc _) HQ.out
end Go.Proofs.Ytogcfndhcphpaaa
