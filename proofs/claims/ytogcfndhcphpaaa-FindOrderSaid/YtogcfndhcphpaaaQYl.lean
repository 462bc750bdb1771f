/-
  What the chunks lack, for one more law.
-/
import Derived.Test.YtogcfndhcphpaaaB01
import Derived.Test.YtogcfndhcphpaaaB02
import Derived.Test.YtogcfndhcphpaaaB03
import Derived.Test.YtogcfndhcphpaaaB04
import Derived.Test.YtogcfndhcphpaaaB05
import Derived.Test.YtogcfndhcphpaaaB06
import Derived.Test.YtogcfndhcphpaaaB07
import Derived.Test.YtogcfndhcphpaaaB08
import Derived.Test.YtogcfndhcphpaaaB09
import Derived.Test.YtogcfndhcphpaaaB10
import Derived.Test.YtogcfndhcphpaaaB11
import Derived.Test.YtogcfndhcphpaaaB12
import Derived.Test.YtogcfndhcphpaaaB13
import Derived.Test.YtogcfndhcphpaaaB14
import Derived.Test.YtogcfndhcphpaaaB15
import Derived.Test.YtogcfndhcphpaaaB16

set_option linter.unusedVariables false
set_option linter.unusedSimpArgs false
namespace Go.Proofs.Ytogcfndhcphpaaa
open Go.RowKit
theorem Ri.pop_nil {r : Ri} (h : r.Holds []) : r.pop = (r, 0, false) := by
  have hm := Ri.may_of h
  have hn := (Ri.holds_n h).1
  unfold Ri.pop
  rw [if_pos hm, if_pos (by simpa using hn)]
end Go.Proofs.Ytogcfndhcphpaaa
namespace Go.Proofs.Ytogcfndhcphpaaa
open Go.RowKit
set_option maxHeartbeats 1000000 in
theorem scontains_any (v : Value) (l : List Int) (n : Int) (r : Bool) (hr : decide (n ∈ l) = r) (w : World) (h : IntsAt w v l) (hl : l.length ≤ 100000000) : Calls Try.prog 123 #[v, .int .i64 n] w fun e w' => e = .returned (.bool r) ∧ w' = w := by
  have HS := Lib.hid (sindex_any v l n w h hl)
  obtain ⟨A, c, rfl, -⟩ := h
  go_enter Try.func123, Try.ntmps123
  go_wp2_with fail
  refine HS.out.mono ?_
  rintro e w' ⟨i, rfl, hi, rfl⟩
  rw [hr] at hi
  go_wp2
  go_ret
  exact ⟨by rw [← hi] <;> rfl, rfl⟩
end Go.Proofs.Ytogcfndhcphpaaa
namespace Go.Proofs.Ytogcfndhcphpaaa
open Go.RowKit
def plV (q : Int × Int) : Value := .agg #[.int .i64 q.1, .int .i64 q.2]
def placeAt (n : Int) : List Pr → Nat → Int × Int
  | [], _ => (3, 0)
  | p :: ps, i => if p.next = n then (1, (i : Int) + 1) else if n ∈ p.ring.list then (2, (i : Int) + 1) else placeAt n ps (i + 1)
def waitAt (n : Int) : List (List Int) → Nat → Int × Int
  | [], _ => (6, 0)
  | l :: ls, i => if n ∈ l then (5, (i : Int)) else waitAt n ls (i + 1)
theorem place_set {w : World} {B : Nat} {x y u v : Value} {T : TypeId} (h : w.heap[B]? = some (.cells #[u, v] T (0, 0))) : ((w.setCell ⟨B, 0, none⟩ x).setCell ⟨B, 1, none⟩ y).heap[B]? = some (.cells #[x, y] T (0, 0)) := blk_set (blk_set h 0 _) 1 _
theorem place_cells {w : World} {B : Nat} {u v : Value} {T : TypeId} (h : w.heap[B]? = some (.cells #[u, v] T (0, 0))) : (w.cell? ⟨B, 0, none⟩ = some u ∧ w.cell? ⟨B, 1, none⟩ = some v) ∧ w.frozen? ⟨B, 0, none⟩ = false ∧ w.frozen? ⟨B, 1, none⟩ = false :=
  ⟨⟨blk_cell h 0 _ rfl, blk_cell h 1 _ rfl⟩, frozen_of_row _ _ 0 _ _ h, frozen_of_row _ _ 1 _ _ h⟩
theorem Ext.set2 {a w : World} {B : Nat} (h : Ext a w) (hB : a.heap.size ≤ B) (x y : Value) : Ext a ((w.setCell ⟨B, 0, none⟩ x).setCell ⟨B, 1, none⟩ y) := (h.setCell (p := ⟨B, 0, none⟩) hB x).setCell (p := ⟨B, 1, none⟩) hB y
set_option maxRecDepth 100000 in
set_option maxHeartbeats 4000000 in
theorem squeued_any (h : StH) (s : St) (n : Int) (q : Int × Int) (hq : placeAt n s.ps 0 = q) (w : World) (hk : StOk w h s) (hf : StFew s) : Calls Try.prog 94 #[stV h s, .int .i64 n] w fun e w' => e = .returned (plV q) ∧ Ext w w' := by
  have f1 := hf.ps
  have HK := Lib.hid hk
  obtain ⟨w1, hw1⟩ : ∃ w1, w.alloc (.cells #[.slice h.pa s.prog.length h.pc, .slice h.ga s.gs.length h.gc, .slice h.qa s.ps.length h.qc, .slice h.ma s.ms.length h.mc, .slice h.la s.glob.length h.lc, .int .i64 s.c0, .int .i64 s.c1, .int .i64 s.c2, .int .i64 s.c3, .slice h.a0 s.w0.length h.k0, .slice h.a1 s.w1.length h.k1, .slice h.a2 s.w2.length h.k2, .slice h.a3 s.w3.length h.k3, .slice h.ta s.timers.length h.tc, .int .i64 s.clock, .int .i64 s.procs] 32) = w1 := ⟨_, rfl⟩
  have HX1 : Hid (Ext w w1) := Lib.hid (by rw [← hw1]; exact (Ext.refl w).alloc _)
  have HB1 : Hid (w1.heap[w.heap.size]? = some (.cells (stC h s) 32 (0, 0))) := Lib.hid (by rw [← hw1]; exact blk_new w _)
  have HK1 := Lib.hid (hk.ext HX1.out)
  have HW1 := Lib.hid hw1
  clear hw1 hk
  clear hf
  obtain ⟨B, hB⟩ : ∃ B, w1.heap.size = B := ⟨_, rfl⟩
  have HB := Lib.hid hB
  obtain ⟨w2, hw2⟩ : ∃ w2, w1.alloc (.cells #[.int .i64 0, .int .i64 0] 52) = w2 := ⟨_, rfl⟩
  have HW2 := Lib.hid hw2
  have HX2 : Hid (Ext w1 w2) := Lib.hid (by rw [← hw2]; exact (Ext.refl w1).alloc _)
  have HP2 : Hid (w2.heap[B]? = some (.cells #[.int .i64 0, .int .i64 0] 52 (0, 0))) := Lib.hid (by rw [← hw2, ← hB]; exact blk_new w1 _)
  have HBW : Hid (w.heap.size ≤ B) := Lib.hid (by rw [← hB]; exact HX1.out.size)
  clear hB hw2
  have HQ0 := Lib.hid hq
  clear hq
  have q2 := st2 (HX2.out.blk HB1.out)
  unfold stV
  go_enter Try.func94, Try.ntmps94
  go_upto_region 1 with (first | rw [HW1.out] | rw [HW2.out])
  rw [HB.out]
  generalize Value.agg #[.slice h.pa s.prog.length h.pc, .slice h.ga s.gs.length h.gc, .slice h.qa s.ps.length h.qc, .slice h.ma s.ms.length h.mc, .slice h.la s.glob.length h.lc, .int .i64 s.c0, .int .i64 s.c1, .int .i64 s.c2, .int .i64 s.c3, .slice h.a0 s.w0.length h.k0, .slice h.a1 s.w1.length h.k1, .slice h.a2 s.w2.length h.k2, .slice h.a3 s.w3.length h.k3, .slice h.ta s.timers.length h.tc, .int .i64 s.clock, .int .i64 s.procs] = sv0
  go_wp2_with fail
  clear q2
  obtain ⟨qa, hqa⟩ : ∃ qa, h.qa = qa := ⟨_, rfl⟩
  have HQA := Lib.hid hqa
  rw [hqa]
  clear hqa
  go_loopw [10] (fun iv wr => ∃ k : Nat, k ≤ s.ps.length ∧ iv = .int .i64 k ∧ placeAt n (s.ps.drop k) k = q ∧ Ext w2 wr) (fun iv _ => s.ps.length - (intOf iv).toNat)
  case atStart => exact ⟨0, by omega, rfl, HQ0.out, Ext.refl _⟩
  case round =>
    obtain ⟨k, hk, rfl, hpl, hx⟩ := hrel
    have HX := Lib.hid hx
    have HPL := Lib.hid hpl
    clear hx hpl
    by_cases hlt : k < s.ps.length
    · obtain ⟨p, hp⟩ : ∃ p, s.ps[k]? = some p := ⟨_, List.getElem?_eq_getElem hlt⟩
      obtain ⟨m, nx, r, sq⟩ := p
      obtain ⟨b0, b1, b2, b3, b4, b5, b6, b7, hd, nn, rfl⟩ := Ri.open8 (HK.out.buf _ (List.mem_of_getElem? hp))
      obtain ⟨b, o, hA, hb, hc⟩ := ps_get (HK1.out.ext (HX2.out.trans HX.out)).ps hp
      rw [HQA.out] at hA
      subst hA
      obtain ⟨⟨p0, p1, p2, p3, p4, p5, p6⟩, p7, p8, p9, p10, p11, p12⟩ := hc
      obtain ⟨l, hl⟩ : ∃ l, Ri.list ⟨[b0, b1, b2, b3, b4, b5, b6, b7], hd, nn⟩ = l := ⟨_, rfl⟩
      have HL := Lib.hid hl
      have hl8 : Hid (l.length ≤ 8) := Lib.hid (by rw [← hl]; exact Ri.list_len _)
      have HD : Hid (placeAt n (s.ps.drop k) k = if nx = n then (1, (k : Int) + 1) else if n ∈ l then (2, (k : Int) + 1) else placeAt n (s.ps.drop (k + 1)) (k + 1)) := Lib.hid (by rw [drop_next hp, placeAt, ← hl])
      obtain ⟨w4, hw4⟩ : ∃ w4, wr.alloc (.cells #[.int .i64 m, .int .i64 nx, .int .i64 b0, .int .i64 b1, .int .i64 b2, .int .i64 b3, .int .i64 b4, .int .i64 b5, .int .i64 b6, .int .i64 b7, .int .i64 hd, .int .i64 nn, .int .i64 sq] 40) = w4 := ⟨_, rfl⟩
      have HW4 := Lib.hid hw4
      have HX4 : Hid (Ext wr w4) := Lib.hid (by rw [← hw4]; exact (Ext.refl wr).alloc _)
      have HB4 : Hid (w4.heap[wr.heap.size]? = some (.cells #[.int .i64 m, .int .i64 nx, .int .i64 b0, .int .i64 b1, .int .i64 b2, .int .i64 b3, .int .i64 b4, .int .i64 b5, .int .i64 b6, .int .i64 b7, .int .i64 hd, .int .i64 nn, .int .i64 sq] 40 (0, 0))) := Lib.hid (by rw [← hw4]; exact blk_new wr _)
      clear hp hb hl hw4
      go_upto_region 4 with fail
      rw [HW4.out]
      clear p0 p1 p2 p3 p4 p5 p6 p7 p8 p9 p10 p11 p12
      by_cases h1 : nx = n
      · have HQ : Hid ((1, (k : Int) + 1) = q) := Lib.hid (by rw [← HPL.out, HD.out, if_pos h1])
        have h1' : (nx == n) = true := by simpa using h1
        have z1 := blk_cell HB4.out 1 _ rfl
        have HPR := Lib.hid ((HX.out.trans HX4.out).blk HP2.out)
        have HXR := Lib.hid (HX2.out.trans (HX.out.trans HX4.out))
        obtain ⟨⟨r0, r1⟩, y0, y1⟩ := place_cells HPR.out
        clear h1
        go_wp2
        refine bodyPost_ret (v := .agg #[.int .i64 _, .int .i64 _]) (results_cell_row rfl _ _ B _ _ _ _ rfl (place_set HPR.out) Try.underlying52 rfl (by kernel_rfl)) rfl ⟨by rw [← HQ.out] <;> rfl, (HX1.out.trans HXR.out).set2 HBW.out _ _⟩
      · have h1' : (nx == n) = false := by simpa using h1
        have HD2 : Hid (placeAt n (s.ps.drop k) k = if n ∈ l then (2, (k : Int) + 1) else placeAt n (s.ps.drop (k + 1)) (k + 1)) := Lib.hid (by rw [HD.out, if_neg h1])
        clear h1
        obtain ⟨⟨p0, p1, p2, p3, p4, p5, p6⟩, p7, p8, p9, p10, p11, p12⟩ := cells13 HB4.out
        go_wp2_with fail
        refine (rlist_k b0 b1 b2 b3 b4 b5 b6 b7 hd nn l HL.out _).mono ?_
        rintro e w5 ⟨v5, rfl, hi5, hx5⟩
        obtain ⟨A5, c5, rfl⟩ := hi5.form
        clear p0 p1 p2 p3 p4 p5 p6 p7 p8 p9 p10 p11 p12
        have HX5 := Lib.hid (HX.out.trans (HX4.out.trans hx5))
        have HCN := Lib.hid (scontains_any _ l n _ rfl _ hi5 (by have := hl8.out; omega))
        clear hi5 hx5
        go_wp2_with fail
        refine HCN.out.mono ?_
        rintro e w' ⟨rfl, rfl⟩
        by_cases hm : n ∈ l
        · have HQ : Hid ((2, (k : Int) + 1) = q) := Lib.hid (by rw [← HPL.out, HD2.out, if_pos hm])
          rw [decide_eq_true hm]
          have HPR := Lib.hid (HX5.out.blk HP2.out)
          have HXR := Lib.hid (HX2.out.trans HX5.out)
          obtain ⟨⟨r0, r1⟩, y0, y1⟩ := place_cells HPR.out
          clear hm
          go_wp2
          refine bodyPost_ret (v := .agg #[.int .i64 _, .int .i64 _]) (results_cell_row rfl _ _ B _ _ _ _ rfl (place_set HPR.out) Try.underlying52 rfl (by kernel_rfl)) rfl ⟨by rw [← HQ.out] <;> rfl, (HX1.out.trans HXR.out).set2 HBW.out _ _⟩
        · have HN : Hid (placeAt n (s.ps.drop (k + 1)) (k + 1) = q) := Lib.hid (by rw [← HPL.out, HD2.out, if_neg hm])
          rw [decide_eq_false hm]
          clear hm
          go_wp2
          go_roundw
          case rel => exact ⟨k + 1, by omega, by go_num, HN.out, HX5.out⟩
          case measure => simp [intOf]; omega
    · obtain rfl : k = s.ps.length := by omega
      have HQ : Hid ((3, 0) = q) := Lib.hid (by rw [← HPL.out, List.drop_length]; rfl)
      have HPR := Lib.hid (HX.out.blk HP2.out)
      have HXR := Lib.hid (HX2.out.trans HX.out)
      obtain ⟨⟨r0, r1⟩, y0, y1⟩ := place_cells HPR.out
      go_wp2
      refine bodyPost_ret (v := .agg #[.int .i64 _, .int .i64 _]) (results_cell_row rfl _ _ B _ _ _ _ rfl (place_set HPR.out) Try.underlying52 rfl (by kernel_rfl)) rfl ⟨by rw [← HQ.out] <;> rfl, (HX1.out.trans HXR.out).set2 HBW.out _ _⟩
set_option maxRecDepth 100000 in
set_option maxHeartbeats 4000000 in
theorem ratP_any (h : StH) (s : St) (n : Int) (q : Int × Int) (hq : placeAt n s.ps 0 = q) (w : World) (hk : StOk w h s) (hf : StFew s) : Calls Try.prog 82 #[stV h s, .int .i64 n] w fun e w' => e = .returned (plV q) ∧ Ext w w' := by
  have f1 := hf.ps
  have HK := Lib.hid hk
  obtain ⟨w1, hw1⟩ : ∃ w1, w.alloc (.cells #[.slice h.pa s.prog.length h.pc, .slice h.ga s.gs.length h.gc, .slice h.qa s.ps.length h.qc, .slice h.ma s.ms.length h.mc, .slice h.la s.glob.length h.lc, .int .i64 s.c0, .int .i64 s.c1, .int .i64 s.c2, .int .i64 s.c3, .slice h.a0 s.w0.length h.k0, .slice h.a1 s.w1.length h.k1, .slice h.a2 s.w2.length h.k2, .slice h.a3 s.w3.length h.k3, .slice h.ta s.timers.length h.tc, .int .i64 s.clock, .int .i64 s.procs] 32) = w1 := ⟨_, rfl⟩
  have HX1 : Hid (Ext w w1) := Lib.hid (by rw [← hw1]; exact (Ext.refl w).alloc _)
  have HB1 : Hid (w1.heap[w.heap.size]? = some (.cells (stC h s) 32 (0, 0))) := Lib.hid (by rw [← hw1]; exact blk_new w _)
  have HK1 := Lib.hid (hk.ext HX1.out)
  have HW1 := Lib.hid hw1
  clear hw1 hk
  clear hf
  obtain ⟨B, hB⟩ : ∃ B, w1.heap.size = B := ⟨_, rfl⟩
  have HB := Lib.hid hB
  obtain ⟨w2, hw2⟩ : ∃ w2, w1.alloc (.cells #[.int .i64 0, .int .i64 0] 52) = w2 := ⟨_, rfl⟩
  have HW2 := Lib.hid hw2
  have HX2 : Hid (Ext w1 w2) := Lib.hid (by rw [← hw2]; exact (Ext.refl w1).alloc _)
  have HP2 : Hid (w2.heap[B]? = some (.cells #[.int .i64 0, .int .i64 0] 52 (0, 0))) := Lib.hid (by rw [← hw2, ← hB]; exact blk_new w1 _)
  have HBW : Hid (w.heap.size ≤ B) := Lib.hid (by rw [← hB]; exact HX1.out.size)
  clear hB hw2
  have HQ0 := Lib.hid hq
  clear hq
  unfold stV
  go_enter Try.func82, Try.ntmps82
  go_upto_region 1 with (first | rw [HW1.out] | rw [HW2.out])
  rw [HB.out]
  generalize Value.agg #[.slice h.pa s.prog.length h.pc, .slice h.ga s.gs.length h.gc, .slice h.qa s.ps.length h.qc, .slice h.ma s.ms.length h.mc, .slice h.la s.glob.length h.lc, .int .i64 s.c0, .int .i64 s.c1, .int .i64 s.c2, .int .i64 s.c3, .slice h.a0 s.w0.length h.k0, .slice h.a1 s.w1.length h.k1, .slice h.a2 s.w2.length h.k2, .slice h.a3 s.w3.length h.k3, .slice h.ta s.timers.length h.tc, .int .i64 s.clock, .int .i64 s.procs] = sv0
  go_wp2_with fail
  go_loopw [5] (fun iv wr => ∃ k : Nat, k ≤ s.ps.length ∧ iv = .int .i64 k ∧ placeAt n (s.ps.drop k) k = q ∧ Ext w2 wr) (fun iv _ => s.ps.length - (intOf iv).toNat)
  case atStart => exact ⟨0, by omega, rfl, HQ0.out, Ext.refl _⟩
  case round =>
    obtain ⟨k, hk, rfl, hpl, hx⟩ := hrel
    have HX := Lib.hid hx
    have HPL := Lib.hid hpl
    clear hx hpl
    have q2 := st2 ((HX2.out.trans HX.out).blk HB1.out)
    by_cases hlt : k < s.ps.length
    · obtain ⟨p, hp⟩ : ∃ p, s.ps[k]? = some p := ⟨_, List.getElem?_eq_getElem hlt⟩
      obtain ⟨m, nx, r, sq⟩ := p
      obtain ⟨b0, b1, b2, b3, b4, b5, b6, b7, hd, nn, rfl⟩ := Ri.open8 (HK.out.buf _ (List.mem_of_getElem? hp))
      obtain ⟨b, o, hA, hb, hc⟩ := ps_get (HK1.out.ext (HX2.out.trans HX.out)).ps hp
      rw [hA] at q2
      obtain ⟨⟨p0, p1, p2, p3, p4, p5, p6⟩, p7, p8, p9, p10, p11, p12⟩ := hc
      obtain ⟨l, hl⟩ : ∃ l, Ri.list ⟨[b0, b1, b2, b3, b4, b5, b6, b7], hd, nn⟩ = l := ⟨_, rfl⟩
      have HL := Lib.hid hl
      have hl8 : Hid (l.length ≤ 8) := Lib.hid (by rw [← hl]; exact Ri.list_len _)
      have HD : Hid (placeAt n (s.ps.drop k) k = if nx = n then (1, (k : Int) + 1) else if n ∈ l then (2, (k : Int) + 1) else placeAt n (s.ps.drop (k + 1)) (k + 1)) := Lib.hid (by rw [drop_next hp, placeAt, ← hl])
      clear hp hb hl hA
      by_cases h1 : nx = n
      · have HQ : Hid ((1, (k : Int) + 1) = q) := Lib.hid (by rw [← HPL.out, HD.out, if_pos h1])
        have h1' : (nx == n) = true := by simpa using h1
        have HPR := Lib.hid (HX.out.blk HP2.out)
        have HXR := Lib.hid (HX2.out.trans HX.out)
        obtain ⟨⟨r0, r1⟩, y0, y1⟩ := place_cells HPR.out
        clear h1
        go_wp2
        refine bodyPost_ret (v := .agg #[.int .i64 _, .int .i64 _]) (results_cell_row rfl _ _ B _ _ _ _ rfl (place_set HPR.out) Try.underlying52 rfl (by kernel_rfl)) rfl ⟨by rw [← HQ.out] <;> rfl, (HX1.out.trans HXR.out).set2 HBW.out _ _⟩
      · have h1' : (nx == n) = false := by simpa using h1
        have HD2 : Hid (placeAt n (s.ps.drop k) k = if n ∈ l then (2, (k : Int) + 1) else placeAt n (s.ps.drop (k + 1)) (k + 1)) := Lib.hid (by rw [HD.out, if_neg h1])
        clear h1
        go_wp2_with fail
        refine (rrlist_k b0 b1 b2 b3 b4 b5 b6 b7 hd nn l HL.out _).mono ?_
        rintro e w5 ⟨v5, rfl, ho5, hx5⟩
        obtain ⟨A5, c5, rfl⟩ := ho5.form
        clear p0 p1 p2 p3 p4 p5 p6 p7 p8 p9 p10 p11 p12
        have HX5 := Lib.hid (HX.out.trans hx5)
        have HCN := Lib.hid (rtimes_any _ l n _ ho5.at.2 (by have := hl8.out; omega))
        have HTL : Hid (St.times l n ≤ 8) := Lib.hid (Nat.le_trans (times_le l n) hl8.out)
        clear ho5 hx5 q2
        go_wp2_with fail
        refine HCN.out.mono ?_
        rintro e w' ⟨rfl, rfl⟩
        by_cases hm : n ∈ l
        · have HQ : Hid ((2, (k : Int) + 1) = q) := Lib.hid (by rw [← HPL.out, HD2.out, if_pos hm])
          have hmt : ((0 : Int) < (St.times l n : Int)) := by have := List.count_pos_iff.2 hm; unfold St.times; omega
          have HPR := Lib.hid (HX5.out.blk HP2.out)
          have HXR := Lib.hid (HX2.out.trans HX5.out)
          obtain ⟨⟨r0, r1⟩, y0, y1⟩ := place_cells HPR.out
          clear hm
          go_wp2
          refine bodyPost_ret (v := .agg #[.int .i64 _, .int .i64 _]) (results_cell_row rfl _ _ B _ _ _ _ rfl (place_set HPR.out) Try.underlying52 rfl (by kernel_rfl)) rfl ⟨by rw [← HQ.out] <;> rfl, (HX1.out.trans HXR.out).set2 HBW.out _ _⟩
        · have HN : Hid (placeAt n (s.ps.drop (k + 1)) (k + 1) = q) := Lib.hid (by rw [← HPL.out, HD2.out, if_neg hm])
          have hmt : St.times l n = 0 := by unfold St.times; exact List.count_eq_zero.2 hm
          rw [hmt]
          clear hm hmt
          go_wp2
          go_roundw
          case rel => exact ⟨k + 1, by omega, by go_num, HN.out, HX5.out⟩
          case measure => simp [intOf]; omega
    · obtain rfl : k = s.ps.length := by omega
      have HQ : Hid ((3, 0) = q) := Lib.hid (by rw [← HPL.out, List.drop_length]; rfl)
      have HPR := Lib.hid (HX.out.blk HP2.out)
      have HXR := Lib.hid (HX2.out.trans HX.out)
      obtain ⟨⟨r0, r1⟩, y0, y1⟩ := place_cells HPR.out
      go_wp2
      refine bodyPost_ret (v := .agg #[.int .i64 _, .int .i64 _]) (results_cell_row rfl _ _ B _ _ _ _ rfl (place_set HPR.out) Try.underlying52 rfl (by kernel_rfl)) rfl ⟨by rw [← HQ.out] <;> rfl, (HX1.out.trans HXR.out).set2 HBW.out _ _⟩
set_option maxRecDepth 100000 in
set_option maxHeartbeats 4000000 in
theorem swaiting_any (h : StH) (s : St) (n : Int) (q : Int × Int) (hq : waitAt n s.wts 0 = q) (w : World) (hk : StOk w h s) (hf : StFew s) : Calls Try.prog 95 #[stV h s, .int .i64 n] w fun e w' => e = .returned (plV q) ∧ Ext w w' := by
  have F2 := Lib.hid hf.w
  have HK := Lib.hid hk
  obtain ⟨w1, hw1⟩ : ∃ w1, w.alloc (.cells #[.slice h.pa s.prog.length h.pc, .slice h.ga s.gs.length h.gc, .slice h.qa s.ps.length h.qc, .slice h.ma s.ms.length h.mc, .slice h.la s.glob.length h.lc, .int .i64 s.c0, .int .i64 s.c1, .int .i64 s.c2, .int .i64 s.c3, .slice h.a0 s.w0.length h.k0, .slice h.a1 s.w1.length h.k1, .slice h.a2 s.w2.length h.k2, .slice h.a3 s.w3.length h.k3, .slice h.ta s.timers.length h.tc, .int .i64 s.clock, .int .i64 s.procs] 32) = w1 := ⟨_, rfl⟩
  have HX1 : Hid (Ext w w1) := Lib.hid (by rw [← hw1]; exact (Ext.refl w).alloc _)
  have HB1 : Hid (w1.heap[w.heap.size]? = some (.cells (stC h s) 32 (0, 0))) := Lib.hid (by rw [← hw1]; exact blk_new w _)
  have HK1 := Lib.hid (hk.ext HX1.out)
  have HW1 := Lib.hid hw1
  clear hw1 hk
  clear hf
  obtain ⟨B, hB⟩ : ∃ B, w1.heap.size = B := ⟨_, rfl⟩
  have HB := Lib.hid hB
  obtain ⟨w2, hw2⟩ : ∃ w2, w1.alloc (.cells #[.int .i64 0, .int .i64 0] 52) = w2 := ⟨_, rfl⟩
  have HW2 := Lib.hid hw2
  have HX2 : Hid (Ext w1 w2) := Lib.hid (by rw [← hw2]; exact (Ext.refl w1).alloc _)
  have HP2 : Hid (w2.heap[B]? = some (.cells #[.int .i64 0, .int .i64 0] 52 (0, 0))) := Lib.hid (by rw [← hw2, ← hB]; exact blk_new w1 _)
  have HBW : Hid (w.heap.size ≤ B) := Lib.hid (by rw [← hB]; exact HX1.out.size)
  clear hB hw2
  have HQ0 := Lib.hid hq
  clear hq
  have q9 := st9 (HX2.out.blk HB1.out)
  have q10 := st10 (HX2.out.blk HB1.out)
  have q11 := st11 (HX2.out.blk HB1.out)
  have q12 := st12 (HX2.out.blk HB1.out)
  unfold stV
  go_enter Try.func95, Try.ntmps95
  go_upto_region 1 with (first | rw [HW1.out] | rw [HW2.out])
  rw [HB.out]
  generalize Value.agg #[.slice h.pa s.prog.length h.pc, .slice h.ga s.gs.length h.gc, .slice h.qa s.ps.length h.qc, .slice h.ma s.ms.length h.mc, .slice h.la s.glob.length h.lc, .int .i64 s.c0, .int .i64 s.c1, .int .i64 s.c2, .int .i64 s.c3, .slice h.a0 s.w0.length h.k0, .slice h.a1 s.w1.length h.k1, .slice h.a2 s.w2.length h.k2, .slice h.a3 s.w3.length h.k3, .slice h.ta s.timers.length h.tc, .int .i64 s.clock, .int .i64 s.procs] = sv0
  go_wp2_with fail
  clear q9 q10 q11 q12
  go_loopw [9] (fun iv wr => ∃ k : Nat, k ≤ 4 ∧ iv = .int .i64 k ∧ waitAt n (s.wts.drop k) k = q ∧ wr = w2) (fun iv _ => 4 - (intOf iv).toNat)
  case atStart => exact ⟨0, by omega, rfl, HQ0.out, rfl⟩
  case round =>
    obtain ⟨k, hk, rfl, hpl, rfl⟩ := hrel
    have HPL := Lib.hid hpl
    clear hpl
    by_cases hlt : k < 4
    · obtain ⟨A0, d0, l, hcell, hI, hl⟩ := HK1.out.wait hlt
      have hidx : ∀ w, (Instr.index 29 (.agg #[.slice h.a0 s.w0.length h.k0, .slice h.a1 s.w1.length h.k1, .slice h.a2 s.w2.length h.k2, .slice h.a3 s.w3.length h.k3]) (.int .i64 (k : Int))).run Try.prog w = .ok (.slice A0 l.length d0) w := fun w => by
        obtain rfl | rfl | rfl | rfl : k = 0 ∨ k = 1 ∨ k = 2 ∨ k = 3 := by omega
        · have he : Value.slice h.a0 s.w0.length h.k0 = .slice A0 l.length d0 := Option.some.inj hcell
          refine Eq.trans (b := .ok (.slice h.a0 s.w0.length h.k0) w) ?_ (by rw [he])
          kernel_rfl
        · have he : Value.slice h.a1 s.w1.length h.k1 = .slice A0 l.length d0 := Option.some.inj hcell
          refine Eq.trans (b := .ok (.slice h.a1 s.w1.length h.k1) w) ?_ (by rw [he])
          kernel_rfl
        · have he : Value.slice h.a2 s.w2.length h.k2 = .slice A0 l.length d0 := Option.some.inj hcell
          refine Eq.trans (b := .ok (.slice h.a2 s.w2.length h.k2) w) ?_ (by rw [he])
          kernel_rfl
        · have he : Value.slice h.a3 s.w3.length h.k3 = .slice A0 l.length d0 := Option.some.inj hcell
          refine Eq.trans (b := .ok (.slice h.a3 s.w3.length h.k3) w) ?_ (by rw [he])
          kernel_rfl
      have HCN := Lib.hid (scontains_any _ l n _ rfl wr (hI.ext HX2.out) (by have := wts_few F2.out hl; omega))
      have HD : Hid (waitAt n (s.wts.drop k) k = if n ∈ l then (5, (k : Int)) else waitAt n (s.wts.drop (k + 1)) (k + 1)) := Lib.hid (by rw [drop_next hl, waitAt])
      clear hcell hI hl
      go_wp2_with fail
      refine HCN.out.mono ?_
      rintro e w' ⟨rfl, rfl⟩
      clear hidx
      by_cases hm : n ∈ l
      · have HQ : Hid ((5, (k : Int)) = q) := Lib.hid (by rw [← HPL.out, HD.out, if_pos hm])
        rw [decide_eq_true hm]
        have HPR := Lib.hid HP2.out
        have HXR := Lib.hid HX2.out
        obtain ⟨⟨r0, r1⟩, y0, y1⟩ := place_cells HPR.out
        clear hm
        go_wp2
        refine bodyPost_ret (v := .agg #[.int .i64 _, .int .i64 _]) (results_cell_row rfl _ _ B _ _ _ _ rfl (place_set HPR.out) Try.underlying52 rfl (by kernel_rfl)) rfl ⟨by rw [← HQ.out] <;> rfl, (HX1.out.trans HXR.out).set2 HBW.out _ _⟩
      · have HN : Hid (waitAt n (s.wts.drop (k + 1)) (k + 1) = q) := Lib.hid (by rw [← HPL.out, HD.out, if_neg hm])
        rw [decide_eq_false hm]
        clear hm
        go_wp2
        go_roundw
        case rel => exact ⟨k + 1, by omega, by go_num, HN.out, trivial⟩
        case measure => simp [intOf]; omega
    · have HQ : Hid ((6, 0) = q) := Lib.hid (by
        obtain rfl : k = 4 := by omega
        rw [← HPL.out]; rfl)
      have HPR := Lib.hid HP2.out
      have HXR := Lib.hid HX2.out
      obtain ⟨⟨r0, r1⟩, y0, y1⟩ := place_cells HPR.out
      go_wp2
      refine bodyPost_ret (v := .agg #[.int .i64 _, .int .i64 _]) (results_cell_row rfl _ _ B _ _ _ _ rfl (place_set HPR.out) Try.underlying52 rfl (by kernel_rfl)) rfl ⟨by rw [← HQ.out] <;> rfl, (HX1.out.trans HXR.out).set2 HBW.out _ _⟩
end Go.Proofs.Ytogcfndhcphpaaa
namespace Go.Proofs.Ytogcfndhcphpaaa
open Go.RowKit
def St.placeOf (s : St) (n : Int) (g : Gr) : Int × Int := if g.st = 1 then placeAt n s.ps 0 else if g.st = 2 then (4, g.m) else if g.st = 4 then (7, g.m) else if g.st = 5 then (8, 0) else waitAt n s.wts 0
def St.place (s : St) (n : Int) : Int × Int := if 1 ≤ n ∧ n ≤ s.gs.length ∧ s.may = true then s.placeOf n (s.gs.getD (n - 1).toNat St.nilG) else (0, 0)
theorem St.place_no {s : St} {p : Int} (h : ¬ (1 ≤ p ∧ p ≤ s.gs.length ∧ s.may = true)) : s.place p = (0, 0) := if_neg h
theorem St.place_yes {s : St} {j : Nat} {g : Gr} (h2 : s.may = true) (hg : s.gs[j]? = some g) : s.place ((j : Int) + 1) = s.placeOf ((j : Int) + 1) g := by
  have := (List.getElem?_eq_some_iff.1 hg).1
  unfold St.place
  rw [if_pos ⟨by omega, by omega, h2⟩, show ((j : Int) + 1 - 1).toNat = j by omega, List.getD, hg]
  rfl
theorem St.may_st {s : St} (h : s.may = true) {j : Nat} {g : Gr} (hg : s.gs[j]? = some g) : 1 ≤ g.st ∧ g.st ≤ 5 := by
  have := St.may_stands h hg
  unfold St.stands at this
  rw [Bool.and_eq_true, Bool.and_eq_true, decide_eq_true_eq] at this
  exact this.1.1
set_option maxRecDepth 100000 in
set_option maxHeartbeats 8000000 in
theorem sPlace_any (h : StH) (s : St) (n : Int) (q : Int × Int) (hq : s.place n = q) (w : World) (hk : StOk w h s) (hf : StFew s) : Calls Try.prog 39 #[stV h s, .int .i64 n] w fun e w' => e = .returned (plV q) ∧ Ext w w' := by
  have HF := Lib.hid hf
  have f1 := hf.gs
  have F2 := Lib.hid hf.w
  have HK := Lib.hid hk
  obtain ⟨w1, hw1⟩ : ∃ w1, w.alloc (.cells #[.slice h.pa s.prog.length h.pc, .slice h.ga s.gs.length h.gc, .slice h.qa s.ps.length h.qc, .slice h.ma s.ms.length h.mc, .slice h.la s.glob.length h.lc, .int .i64 s.c0, .int .i64 s.c1, .int .i64 s.c2, .int .i64 s.c3, .slice h.a0 s.w0.length h.k0, .slice h.a1 s.w1.length h.k1, .slice h.a2 s.w2.length h.k2, .slice h.a3 s.w3.length h.k3, .slice h.ta s.timers.length h.tc, .int .i64 s.clock, .int .i64 s.procs] 32) = w1 := ⟨_, rfl⟩
  have HX1 : Hid (Ext w w1) := Lib.hid (by rw [← hw1]; exact (Ext.refl w).alloc _)
  have HB1 : Hid (w1.heap[w.heap.size]? = some (.cells (stC h s) 32 (0, 0))) := Lib.hid (by rw [← hw1]; exact blk_new w _)
  have HK1 := Lib.hid (hk.ext HX1.out)
  have HW1 := Lib.hid hw1
  clear hw1 hk
  clear hf
  obtain ⟨B, hB⟩ : ∃ B, w1.heap.size = B := ⟨_, rfl⟩
  have HB := Lib.hid hB
  obtain ⟨w2, hw2⟩ : ∃ w2, w1.alloc (.cells #[.int .i64 0, .int .i64 0] 52) = w2 := ⟨_, rfl⟩
  have HW2 := Lib.hid hw2
  have HX2 : Hid (Ext w1 w2) := Lib.hid (by rw [← hw2]; exact (Ext.refl w1).alloc _)
  have HP2 : Hid (w2.heap[B]? = some (.cells #[.int .i64 0, .int .i64 0] 52 (0, 0))) := Lib.hid (by rw [← hw2, ← hB]; exact blk_new w1 _)
  have HBW : Hid (w.heap.size ≤ B) := Lib.hid (by rw [← hB]; exact HX1.out.size)
  clear hB hw2
  have HQ0 := Lib.hid hq
  clear hq
  have q1 := st1 (HX2.out.blk HB1.out)
  have HLD := Lib.hid (HX2.out.blk HB1.out)
  unfold stV
  go_enter Try.func39, Try.ntmps39
  go_upto_region 1 with (first | rw [HW1.out] | rw [HW2.out])
  rw [HB.out]
  generalize Value.agg #[.slice h.pa s.prog.length h.pc, .slice h.ga s.gs.length h.gc, .slice h.qa s.ps.length h.qc, .slice h.ma s.ms.length h.mc, .slice h.la s.glob.length h.lc, .int .i64 s.c0, .int .i64 s.c1, .int .i64 s.c2, .int .i64 s.c3, .slice h.a0 s.w0.length h.k0, .slice h.a1 s.w1.length h.k1, .slice h.a2 s.w2.length h.k2, .slice h.a3 s.w3.length h.k3, .slice h.ta s.timers.length h.tc, .int .i64 s.clock, .int .i64 s.procs] = sv0
  by_cases a1 : n < 1
  · have HQ : Hid ((0, 0) = q) := Lib.hid (by rw [← HQ0.out, St.place_no (by omega)])
    have HPR := Lib.hid HP2.out
    have HXR := Lib.hid HX2.out
    obtain ⟨⟨r0, r1⟩, y0, y1⟩ := place_cells HPR.out
    go_wp2
    refine bodyPost_ret (v := .agg #[.int .i64 _, .int .i64 _]) (results_cell_row rfl _ _ B _ _ _ _ rfl (place_set HPR.out) Try.underlying52 rfl (by kernel_rfl)) rfl ⟨by rw [← HQ.out] <;> rfl, (HX1.out.trans HXR.out).set2 HBW.out _ _⟩
  by_cases a2 : (s.gs.length : Int) < n
  · have HQ : Hid ((0, 0) = q) := Lib.hid (by rw [← HQ0.out, St.place_no (by omega)])
    have HPR := Lib.hid HP2.out
    have HXR := Lib.hid HX2.out
    obtain ⟨⟨r0, r1⟩, y0, y1⟩ := place_cells HPR.out
    go_wp2
    refine bodyPost_ret (v := .agg #[.int .i64 _, .int .i64 _]) (results_cell_row rfl _ _ B _ _ _ _ rfl (place_set HPR.out) Try.underlying52 rfl (by kernel_rfl)) rfl ⟨by rw [← HQ.out] <;> rfl, (HX1.out.trans HXR.out).set2 HBW.out _ _⟩
  go_wp2_with (refine wpList_load_rowW rfl 32 _ rfl w.heap.size rfl (stL h s) (stV h s) rfl _ (range_row HLD.out) Try.underlying32 rfl (by kernel_rfl) ?_)
  refine (sstmay_any h s _ rfl _ (HK1.out.ext HX2.out) HF.out).mono ?_
  rintro e w3 ⟨rfl, hx3⟩
  have HX3 := Lib.hid (HX2.out.trans hx3)
  have HP3 := Lib.hid (hx3.blk HP2.out)
  clear hx3 q1 HLD
  cases bm : s.may with
  | false =>
    have HQ : Hid ((0, 0) = q) := Lib.hid (by rw [← HQ0.out, St.place_no (fun h => by rw [bm] at h; exact absurd h.2.2 (by simp))])
    have HPR := Lib.hid HP3.out
    have HXR := Lib.hid HX3.out
    obtain ⟨⟨r0, r1⟩, y0, y1⟩ := place_cells HPR.out
    go_wp2
    refine bodyPost_ret (v := .agg #[.int .i64 _, .int .i64 _]) (results_cell_row rfl _ _ B _ _ _ _ rfl (place_set HPR.out) Try.underlying52 rfl (by kernel_rfl)) rfl ⟨by rw [← HQ.out] <;> rfl, (HX1.out.trans HXR.out).set2 HBW.out _ _⟩
  | true =>
    obtain ⟨j, rfl⟩ : ∃ j : Nat, n = (j : Int) + 1 := ⟨(n - 1).toNat, by omega⟩
    obtain ⟨g, hg⟩ : ∃ g, s.gs[j]? = some g := ⟨_, List.getElem?_eq_getElem (by omega)⟩
    have hst := St.may_st bm hg
    have HPO : Hid (s.placeOf ((j : Int) + 1) g = q) := Lib.hid (by rw [← HQ0.out, St.place_yes bm hg])
    obtain ⟨b, o, hA, hb, p0, p1, p2, p3, p4⟩ := gs_get (HK1.out.ext HX3.out).gs hg
    obtain ⟨fn, pc, st, m, sq⟩ := g
    simp only at p0 p1 p2 p3 p4 hst
    have e1 : (j : Int) + 1 - 1 = (j : Int) := by omega
    have e4 : (j : Int) < (s.gs.length : Int) := by omega
    obtain ⟨w4, hw4⟩ : ∃ w4, w3.alloc (.cells #[.int .i64 fn, .int .i64 pc, .int .i64 st, .int .i64 m, .int .i64 sq] 55) = w4 := ⟨_, rfl⟩
    have HW4 := Lib.hid hw4
    have HX4 : Hid (Ext w1 w4) := Lib.hid (by rw [← hw4]; exact HX3.out.alloc _)
    have HG4 : Hid (w4.heap[w3.heap.size]? = some (.cells #[.int .i64 fn, .int .i64 pc, .int .i64 st, .int .i64 m, .int .i64 sq] 55 (0, 0))) := Lib.hid (by rw [← hw4]; exact blk_new w3 _)
    have HP4 : Hid (w4.heap[B]? = some (.cells #[.int .i64 0, .int .i64 0] 52 (0, 0))) := Lib.hid (by rw [← hw4]; exact blk_alloc HP3.out _)
    have q1 := st1 (HX3.out.blk HB1.out)
    have HA := Lib.hid hA
    clear hg hb a1 a2 hw4 hA
    have hA := HA.out
    go_upto_region 4 with fail
    rw [HW4.out]
    clear p0 p1 p2 p3 p4 q1 hA e1 e4
    have HLD := Lib.hid (HX4.out.blk HB1.out)
    have z2 := blk_cell HG4.out 2 _ rfl
    by_cases s1 : st = 1
    · subst s1
      obtain ⟨qa, qb, hqq⟩ : ∃ qa qb, (qa, qb) = q := ⟨q.1, q.2, rfl⟩
      have HQ := Lib.hid hqq
      clear hqq
      have HSC : Hid (Calls Try.prog 94 #[stV h s, .int .i64 ((j : Int) + 1)] w4 fun e w' => e = .returned (.agg #[.int .i64 qa, .int .i64 qb]) ∧ Ext w4 w') := Lib.hid (squeued_any h s ((j : Int) + 1) (qa, qb) (by rw [HQ.out, ← HPO.out]; rfl) w4 (HK1.out.ext HX4.out) HF.out)
      go_wp2_with (refine wpList_load_rowW rfl 32 _ rfl w.heap.size rfl (stL h s) (stV h s) rfl _ (range_row HLD.out) Try.underlying32 rfl (by kernel_rfl) ?_)
      refine HSC.out.mono ?_
      rintro e w5 ⟨rfl, hx5⟩
      have HXR := Lib.hid (HX4.out.trans hx5)
      have HPR := Lib.hid (hx5.blk HP4.out)
      clear z2 hx5
      obtain ⟨⟨r0, r1⟩, y0, y1⟩ := place_cells HPR.out
      go_wp2
      refine bodyPost_ret (v := .agg #[.int .i64 _, .int .i64 _]) (results_cell_row rfl _ _ B _ _ _ _ rfl (place_set HPR.out) Try.underlying52 rfl (by kernel_rfl)) rfl ⟨by rw [← HQ.out] <;> rfl, (HX1.out.trans HXR.out).set2 HBW.out _ _⟩
    have HXR := Lib.hid HX4.out
    have HPR := Lib.hid HP4.out
    have s1' : (st == 1) = false := by simpa using s1
    by_cases s2 : st = 2
    · subst s2
      have HQ : Hid ((4, m) = q) := Lib.hid (by rw [← HPO.out]; rfl)
      have z3 := blk_cell HG4.out 3 _ rfl
      clear s1
      obtain ⟨⟨r0, r1⟩, y0, y1⟩ := place_cells HPR.out
      go_wp2
      refine bodyPost_ret (v := .agg #[.int .i64 _, .int .i64 _]) (results_cell_row rfl _ _ B _ _ _ _ rfl (place_set HPR.out) Try.underlying52 rfl (by kernel_rfl)) rfl ⟨by rw [← HQ.out] <;> rfl, (HX1.out.trans HXR.out).set2 HBW.out _ _⟩
    have s2' : (st == 2) = false := by simpa using s2
    by_cases s3 : st = 3
    · subst s3
      obtain ⟨qa, qb, hqq⟩ : ∃ qa qb, (qa, qb) = q := ⟨q.1, q.2, rfl⟩
      have HQ := Lib.hid hqq
      clear hqq
      have HSC : Hid (Calls Try.prog 95 #[stV h s, .int .i64 ((j : Int) + 1)] w4 fun e w' => e = .returned (.agg #[.int .i64 qa, .int .i64 qb]) ∧ Ext w4 w') := Lib.hid (swaiting_any h s ((j : Int) + 1) (qa, qb) (by rw [HQ.out, ← HPO.out]; rfl) w4 (HK1.out.ext HX4.out) HF.out)
      clear s1 s2
      go_wp2_with (refine wpList_load_rowW rfl 32 _ rfl w.heap.size rfl (stL h s) (stV h s) rfl _ (range_row HLD.out) Try.underlying32 rfl (by kernel_rfl) ?_)
      refine HSC.out.mono ?_
      rintro e w5 ⟨rfl, hx5⟩
      clear HXR HPR
      have HXR := Lib.hid (HX4.out.trans hx5)
      have HPR := Lib.hid (hx5.blk HP4.out)
      clear z2 hx5
      obtain ⟨⟨r0, r1⟩, y0, y1⟩ := place_cells HPR.out
      go_wp2
      refine bodyPost_ret (v := .agg #[.int .i64 _, .int .i64 _]) (results_cell_row rfl _ _ B _ _ _ _ rfl (place_set HPR.out) Try.underlying52 rfl (by kernel_rfl)) rfl ⟨by rw [← HQ.out] <;> rfl, (HX1.out.trans HXR.out).set2 HBW.out _ _⟩
    have s3' : (st == 3) = false := by simpa using s3
    by_cases s4 : st = 4
    · subst s4
      have HQ : Hid ((7, m) = q) := Lib.hid (by rw [← HPO.out]; rfl)
      have z3 := blk_cell HG4.out 3 _ rfl
      clear s1 s2
      obtain ⟨⟨r0, r1⟩, y0, y1⟩ := place_cells HPR.out
      go_wp2
      refine bodyPost_ret (v := .agg #[.int .i64 _, .int .i64 _]) (results_cell_row rfl _ _ B _ _ _ _ rfl (place_set HPR.out) Try.underlying52 rfl (by kernel_rfl)) rfl ⟨by rw [← HQ.out] <;> rfl, (HX1.out.trans HXR.out).set2 HBW.out _ _⟩
    have s4' : (st == 4) = false := by simpa using s4
    obtain rfl : st = 5 := by omega
    have HQ : Hid ((8, 0) = q) := Lib.hid (by rw [← HPO.out]; rfl)
    clear s1 s2 s3 s4
    obtain ⟨⟨r0, r1⟩, y0, y1⟩ := place_cells HPR.out
    go_wp2
    refine bodyPost_ret (v := .agg #[.int .i64 _, .int .i64 _]) (results_cell_row rfl _ _ B _ _ _ _ rfl (place_set HPR.out) Try.underlying52 rfl (by kernel_rfl)) rfl ⟨by rw [← HQ.out] <;> rfl, (HX1.out.trans HXR.out).set2 HBW.out _ _⟩
set_option maxRecDepth 100000 in
set_option maxHeartbeats 2000000 in
theorem rQueue_any (h : StH) (s : St) (p : Int) (q : List Int) (hq : s.queue p = q) (w : World) (hk : StOk w h s) (hf : StFew s) : Calls Try.prog 29 #[stV h s, .int .i64 p] w (IntsP q w) := by
  have HF := Lib.hid hf
  have f1 := hf.ps
  have HK := Lib.hid hk
  obtain ⟨w1, hw1⟩ : ∃ w1, w.alloc (.cells #[.slice h.pa s.prog.length h.pc, .slice h.ga s.gs.length h.gc, .slice h.qa s.ps.length h.qc, .slice h.ma s.ms.length h.mc, .slice h.la s.glob.length h.lc, .int .i64 s.c0, .int .i64 s.c1, .int .i64 s.c2, .int .i64 s.c3, .slice h.a0 s.w0.length h.k0, .slice h.a1 s.w1.length h.k1, .slice h.a2 s.w2.length h.k2, .slice h.a3 s.w3.length h.k3, .slice h.ta s.timers.length h.tc, .int .i64 s.clock, .int .i64 s.procs] 32) = w1 := ⟨_, rfl⟩
  have HX1 : Hid (Ext w w1) := Lib.hid (by rw [← hw1]; exact (Ext.refl w).alloc _)
  have HB1 : Hid (w1.heap[w.heap.size]? = some (.cells (stC h s) 32 (0, 0))) := Lib.hid (by rw [← hw1]; exact blk_new w _)
  have HK1 := Lib.hid (hk.ext HX1.out)
  have HW1 := Lib.hid hw1
  clear hw1 hk
  clear hf
  have HQ := Lib.hid hq
  have HQN : Hid (¬ (1 ≤ p ∧ p ≤ s.procs ∧ s.may = true) → ∀ w', Ext w1 w' → IntsP q w (.returned (.slice none 0 0)) w') := Lib.hid fun hn w' hx => by
    rw [St.queue_no hn] at hq
    subst hq
    exact IntsP.mk' (OwnInts.nil _ _) (Nat.le_refl _) (HX1.out.trans hx)
  clear hq
  have HLD := Lib.hid HB1.out
  have q15 := st15 HB1.out
  unfold stV
  go_enter Try.func29, Try.ntmps29
  go_upto_region 1 with fail
  rw [HW1.out]
  generalize Value.agg #[.slice h.pa s.prog.length h.pc, .slice h.ga s.gs.length h.gc, .slice h.qa s.ps.length h.qc, .slice h.ma s.ms.length h.mc, .slice h.la s.glob.length h.lc, .int .i64 s.c0, .int .i64 s.c1, .int .i64 s.c2, .int .i64 s.c3, .slice h.a0 s.w0.length h.k0, .slice h.a1 s.w1.length h.k1, .slice h.a2 s.w2.length h.k2, .slice h.a3 s.w3.length h.k3, .slice h.ta s.timers.length h.tc, .int .i64 s.clock, .int .i64 s.procs] = sv0
  by_cases a1 : p < 1
  · have HE := Lib.hid (HQN.out (fun h => by omega) w1 (Ext.refl _))
    go_wp2
    go_ret
    exact HE.out
  by_cases a2 : s.procs < p
  · have HE := Lib.hid (HQN.out (fun h => by omega) w1 (Ext.refl _))
    go_wp2
    go_ret
    exact HE.out
  go_wp2_with (refine wpList_load_rowW rfl 32 _ rfl w.heap.size rfl (stL h s) (stV h s) rfl _ (range_row HLD.out) Try.underlying32 rfl (by kernel_rfl) ?_)
  refine (rstmay_any h s _ rfl _ HK1.out HF.out).mono ?_
  rintro e w3 ⟨rfl, hx3⟩
  have HX3 := Lib.hid hx3
  clear hx3 q15 HLD
  cases bm : s.may with
  | false =>
    have HE := Lib.hid (HQN.out (fun h => by rw [bm] at h; exact absurd h.2.2 (by simp)) w3 HX3.out)
    go_wp2
    go_ret
    exact HE.out
  | true =>
    have hps := St.may_procs bm
    obtain ⟨j, rfl⟩ : ∃ j : Nat, p = (j : Int) + 1 := ⟨(p - 1).toNat, by omega⟩
    obtain ⟨x, hp⟩ : ∃ x, s.ps[j]? = some x := ⟨_, List.getElem?_eq_getElem (by omega)⟩
    obtain ⟨m, nx, r, sq⟩ := x
    obtain ⟨b0, b1, b2, b3, b4, b5, b6, b7, hd, nn, rfl⟩ := Ri.open8 (HK.out.buf _ (List.mem_of_getElem? hp))
    have HQY : Hid (St.queueOf ⟨m, nx, ⟨[b0, b1, b2, b3, b4, b5, b6, b7], hd, nn⟩, sq⟩ = q) := Lib.hid (by rw [← HQ.out]; exact (St.queue_yes (by omega) bm hp).symm)
    obtain ⟨b, o, hA, hb, hc⟩ := ps_get (HK1.out.ext HX3.out).ps hp
    obtain ⟨⟨p0, p1, p2, p3, p4, p5, p6⟩, p7, p8, p9, p10, p11, p12⟩ := hc
    have e1 : (j : Int) + 1 - 1 = (j : Int) := by omega
    have e4 : (j : Int) < (s.ps.length : Int) := by omega
    have q2 := st2 (HX3.out.blk HB1.out)
    clear hps hp hb a1 a2
    go_wp2_with fail
    refine (rqueueOf_any m nx b0 b1 b2 b3 b4 b5 b6 b7 hd nn sq w3).mono ?_
    rintro e w5 he
    rw [HQY.out] at he
    obtain ⟨A3, c3, rfl, ho3, hx3⟩ := he
    have HE : Hid (IntsP q w (.returned (.slice A3 q.length c3)) w5) := Lib.hid (IntsP.mk' ho3 (by have := HX1.out.size; have := HX3.out.size; omega) (HX1.out.trans (HX3.out.trans hx3)))
    clear p0 p1 p2 p3 p4 p5 p6 p7 p8 p9 p10 p11 p12
    go_wp2
    go_ret
    exact HE.out
end Go.Proofs.Ytogcfndhcphpaaa
namespace Go.Proofs.Ytogcfndhcphpaaa
open Go.RowKit
theorem St.may_holdP {s : St} (h : s.may = true) {j : Nat} {p : Pr} (hp : s.ps[j]? = some p) : s.holdP j p = true := by
  have := (St.may_parts h).2.2.1
  unfold St.holds at this
  rw [Bool.and_eq_true] at this
  have := allIx_iff.1 this.1 j p hp
  rwa [Nat.zero_add] at this
end Go.Proofs.Ytogcfndhcphpaaa
namespace Go.Proofs.Ytogcfndhcphpaaa
open Go.RowKit
set_option maxRecDepth 100000 in
set_option maxHeartbeats 2000000 in
theorem finuse_any (h : StH) (s : St) (p : Int) (r : Bool) (hr : decide (1 ≤ p ∧ p ≤ s.procs) = r) (w : World) (hk : StOk w h s) : Calls Try.prog 87 #[stV h s, .int .i64 p] w fun e w' => e = .returned (.bool r) ∧ Ext w w' := by
  have HR := Lib.hid hr
  clear hr
  have HK := Lib.hid hk
  obtain ⟨w1, hw1⟩ : ∃ w1, w.alloc (.cells #[.slice h.pa s.prog.length h.pc, .slice h.ga s.gs.length h.gc, .slice h.qa s.ps.length h.qc, .slice h.ma s.ms.length h.mc, .slice h.la s.glob.length h.lc, .int .i64 s.c0, .int .i64 s.c1, .int .i64 s.c2, .int .i64 s.c3, .slice h.a0 s.w0.length h.k0, .slice h.a1 s.w1.length h.k1, .slice h.a2 s.w2.length h.k2, .slice h.a3 s.w3.length h.k3, .slice h.ta s.timers.length h.tc, .int .i64 s.clock, .int .i64 s.procs] 32) = w1 := ⟨_, rfl⟩
  have HX1 : Hid (Ext w w1) := Lib.hid (by rw [← hw1]; exact (Ext.refl w).alloc _)
  have HB1 : Hid (w1.heap[w.heap.size]? = some (.cells (stC h s) 32 (0, 0))) := Lib.hid (by rw [← hw1]; exact blk_new w _)
  have HK1 := Lib.hid (hk.ext HX1.out)
  have HW1 := Lib.hid hw1
  clear hw1 hk
  have q15 := st15 HB1.out
  unfold stV
  go_enter Try.func87, Try.ntmps87
  go_upto_region 1 with fail
  rw [HW1.out]
  generalize Value.agg #[.slice h.pa s.prog.length h.pc, .slice h.ga s.gs.length h.gc, .slice h.qa s.ps.length h.qc, .slice h.ma s.ms.length h.mc, .slice h.la s.glob.length h.lc, .int .i64 s.c0, .int .i64 s.c1, .int .i64 s.c2, .int .i64 s.c3, .slice h.a0 s.w0.length h.k0, .slice h.a1 s.w1.length h.k1, .slice h.a2 s.w2.length h.k2, .slice h.a3 s.w3.length h.k3, .slice h.ta s.timers.length h.tc, .int .i64 s.clock, .int .i64 s.procs] = sv0
  by_cases a1 : 1 ≤ p
  · by_cases a2 : p ≤ s.procs
    · have HQ : Hid (r = true) := Lib.hid (by rw [← HR.out]; simp; omega)
      go_wp2
      go_ret
      exact ⟨by rw [HQ.out] <;> rfl, HX1.out⟩
    · have HQ : Hid (r = false) := Lib.hid (by rw [← HR.out]; simp; omega)
      go_wp2
      go_ret
      exact ⟨by rw [HQ.out] <;> rfl, HX1.out⟩
  · have HQ : Hid (r = false) := Lib.hid (by rw [← HR.out]; simp; omega)
    go_wp2
    go_ret
    exact ⟨by rw [HQ.out] <;> rfl, HX1.out⟩
end Go.Proofs.Ytogcfndhcphpaaa
namespace Go.Proofs.Ytogcfndhcphpaaa
open Go.RowKit
namespace St
theorem may_ring {s : St} (h : s.may = true) {i : Nat} {x : Pr} (hx : s.ps[i]? = some x) : x.ring.may = true := by
  have := may_holdP h hx
  unfold holdP at this
  simp only [Bool.and_eq_true] at this
  exact this.1.1.1.1
end St
end Go.Proofs.Ytogcfndhcphpaaa
namespace Go.Proofs.Ytogcfndhcphpaaa
open Go.RowKit
namespace St
def looks (s : St) (p : Int) : Bool := s.may && decide (1 ≤ p ∧ p ≤ s.procs) && decide ((s.pAt p).m ≠ 0) && decide ((s.mAt (s.pAt p).m).2 = 0)
def runG (s : St) (p g : Int) : St := { s with gs := s.gs.set (g - 1).toNat { s.gAt g with st := 2, m := (s.pAt p).m, seq := (s.gAt g).seq + 1 }, ms := s.ms.set ((s.pAt p).m - 1).toNat ((s.mAt (s.pAt p).m).1, g) }
structure Idle (s : St) (i j : Nat) (x : Pr) : Prop where
  may : s.may = true
  use : (i : Int) + 1 ≤ s.procs
  at_ : s.ps[i]? = some x
  m : x.m = (j : Int) + 1
  hm : s.ms[j]? = some ((i : Int) + 1, 0)
theorem looks_no_may {s : St} {p : Int} (h : s.may = false) : s.looks p = false := by unfold looks; rw [h]; rfl
theorem looks_no_use {s : St} {p : Int} (h : ¬ (1 ≤ p ∧ p ≤ s.procs)) : s.looks p = false := by unfold looks; rw [decide_eq_false h]; simp
theorem may_pm {s : St} (h : s.may = true) {i : Nat} {x : Pr} (hx : s.ps[i]? = some x) (h0 : x.m ≠ 0) : ∃ (j : Nat) (g : Int), x.m = (j : Int) + 1 ∧ s.ms[j]? = some ((i : Int) + 1, g) := by
  have hh := may_holdP h hx
  unfold holdP at hh
  simp only [Bool.and_eq_true, decide_eq_true_eq] at hh
  obtain ⟨⟨⟨_, h1, h2⟩, h3⟩, _⟩ := hh
  obtain ⟨j, e⟩ : ∃ j : Nat, x.m = (j : Int) + 1 := ⟨(x.m - 1).toNat, by omega⟩
  have h3 := h3 (by omega)
  rw [e, show ((j : Int) + 1 - 1).toNat = j by omega] at h3
  obtain ⟨q, hq⟩ : ∃ q, s.ms[j]? = some q := ⟨_, List.getElem?_eq_getElem (by omega)⟩
  rw [List.getD, hq] at h3
  refine ⟨j, q.2, e, ?_⟩
  rw [hq]
  exact congrArg some (Prod.ext h3 rfl)
theorem looks_iff {s : St} {p : Int} : s.looks p = true ↔ ∃ (i j : Nat) (x : Pr), p = (i : Int) + 1 ∧ Idle s i j x := by
  constructor
  · intro h
    unfold looks at h
    simp only [Bool.and_eq_true, decide_eq_true_eq] at h
    obtain ⟨⟨⟨h1, h2⟩, h3⟩, h4⟩ := h
    have hps := may_procs h1
    obtain ⟨i, rfl⟩ : ∃ i : Nat, p = (i : Int) + 1 := ⟨(p - 1).toNat, by omega⟩
    obtain ⟨x, hx⟩ : ∃ x, s.ps[i]? = some x := ⟨_, List.getElem?_eq_getElem (by omega)⟩
    rw [pAt_of hx] at h3 h4
    obtain ⟨j, g, e, hj⟩ := may_pm h1 hx h3
    rw [e, mAt_of hj] at h4
    exact ⟨i, j, x, rfl, h1, h2.2, hx, e, by rw [hj, show g = 0 from h4]⟩
  · rintro ⟨i, j, x, rfl, h⟩
    unfold looks
    rw [h.may, pAt_of h.at_, h.m, mAt_of h.hm, decide_eq_true (show 1 ≤ (i : Int) + 1 ∧ (i : Int) + 1 ≤ s.procs from ⟨by omega, h.use⟩), decide_eq_true (show (j : Int) + 1 ≠ 0 by omega)]
    rfl
theorem runG_eq {s : St} {i j k : Nat} {x : Pr} {y : Gr} {q : Int × Int} (hx : s.ps[i]? = some x) (hm : x.m = (j : Int) + 1) (hq : s.ms[j]? = some q) (hy : s.gs[k]? = some y) :
    s.runG ((i : Int) + 1) ((k : Int) + 1) = { s with gs := s.gs.set k { y with st := 2, m := (j : Int) + 1, seq := y.seq + 1 }, ms := s.ms.set j (q.1, (k : Int) + 1) } := by
  unfold runG
  rw [pAt_of hx, gAt_of hy, hm, mAt_of hq, show ((k : Int) + 1 - 1).toNat = k by omega, show ((j : Int) + 1 - 1).toNat = j by omega]
end St
structure SitC (w : World) (W0 R B : Nat) (v : World) (C : List Value) (h : StH) (s : St) : Prop where
  box : v.heap[W0]? = some (.cells C.toArray 32 (0, 0))
  res : v.heap[R]? = some (.cells #[.slice none 0 0, .slice none 0 0, .slice none 0 0, .slice none 0 0, .slice none 0 0, .int .i64 0, .int .i64 0, .int .i64 0, .int .i64 0, .slice none 0 0, .slice none 0 0, .slice none 0 0, .slice none 0 0, .slice none 0 0, .int .i64 0, .int .i64 0] 32 (0, 0))
  ap : ∃ I, StApart B v I h s
  ext : Ext w v
  lo : W0 < B ∧ R < B ∧ W0 ≠ R ∧ w.heap.size ≤ W0 ∧ w.heap.size ≤ R ∧ B ≤ v.heap.size
namespace SitC
variable {w v v' : World} {W0 R B : Nat} {C : List Value} {h h' : StH} {s s' : St}
theorem of (k : Sit w W0 R B v h s) : SitC w W0 R B v (stL h s) h s := ⟨k.box, k.res, k.ap, k.ext, k.lo⟩
theorem turn (k : SitC w W0 R B v C h s) {g : Nat} (hu : Upd g v v') (hg : B ≤ g) (ha : ∃ I, StApart B v' I h s') : SitC w W0 R B v' C h s' := by
  have l := k.lo
  have hs := hu.size
  exact ⟨(hu.block W0 (by omega) (fun e => by injection e; omega)).trans k.box, (hu.block R (by omega) (fun e => by injection e; omega)).trans k.res, ha, k.ext.upd hu (by omega), by omega⟩
theorem setG (k : SitC w W0 R B v C h s) {i : Nat} {x x' : Gr} (hi : s.gs[i]? = some x) {j : Nat} {ds : List Value} (hj : j + ds.length ≤ 5) (hx : ∀ t, t < 5 → (gL x')[t]? = if j ≤ t ∧ t < j + ds.length then ds[t - j]? else (gL x)[t]?) :
    ∃ g, h.ga = some ⟨g, 0, none⟩ ∧ B ≤ g ∧ g < v.heap.size ∧ v.rangeAt g (i * 5) (gL x) ∧ v.there g (i * 5 + j) ds.length ∧ SitC w W0 R B (v.setCells g (i * 5 + j) ds) C h { s with gs := s.gs.set i x' } := by
  obtain ⟨I, a⟩ := k.ap
  obtain ⟨g, h1, h2, h3, h4, h5, h6⟩ := a.setG hi hj hx
  refine ⟨g, h1, h2, h3, ?_, h4, k.turn h6 h2 ⟨I, h5⟩⟩
  obtain ⟨b, o, e, hb, hc⟩ := (OwnRows.rows gL_len a.gs.1).get hi
  rw [h1] at e
  simp only [Option.some.injEq, Addr.mk.injEq, and_true] at e
  obtain ⟨rfl, rfl⟩ := e
  exact fun j u hu => by rw [← Nat.zero_add (i * 5)]; exact hc j u hu
theorem setM (k : SitC w W0 R B v C h s) {i : Nat} {x x' : Int × Int} (hi : s.ms[i]? = some x) {j : Nat} {ds : List Value} (hj : j + ds.length ≤ 2) (hx : ∀ t, t < 2 → (pairL x')[t]? = if j ≤ t ∧ t < j + ds.length then ds[t - j]? else (pairL x)[t]?) :
    ∃ g, h.ma = some ⟨g, 0, none⟩ ∧ B ≤ g ∧ g < v.heap.size ∧ v.rangeAt g (i * 2) (pairL x) ∧ v.there g (i * 2 + j) ds.length ∧ SitC w W0 R B (v.setCells g (i * 2 + j) ds) C h { s with ms := s.ms.set i x' } := by
  obtain ⟨I, a⟩ := k.ap
  obtain ⟨g, h1, h2, h3, h4, h5, h6⟩ := a.setM hi hj hx
  refine ⟨g, h1, h2, h3, ?_, h4, k.turn h6 h2 ⟨I, h5⟩⟩
  obtain ⟨b, o, e, hb, hc⟩ := (OwnRows.rows pairL_len a.ms.1).get hi
  rw [h1] at e
  simp only [Option.some.injEq, Addr.mk.injEq, and_true] at e
  obtain ⟨rfl, rfl⟩ := e
  exact fun j u hu => by rw [← Nat.zero_add (i * 2)]; exact hc j u hu
theorem getP (k : SitC w W0 R B v C h s) {i : Nat} {x : Pr} (hi : s.ps[i]? = some x) : ∃ g, h.qa = some ⟨g, 0, none⟩ ∧ v.rangeAt g (i * 13) (pL x) := by
  obtain ⟨I, a⟩ := k.ap
  obtain ⟨g, h1, h2, h3, h4, h5, h6⟩ := a.setP hi (j := 0) (ds := []) (by simp) (fun t _ => by rw [if_neg (by simp)])
  obtain ⟨b, o, e, hb, hc⟩ := (OwnRows.rows pL_len a.ps.1).get hi
  rw [h1] at e
  simp only [Option.some.injEq, Addr.mk.injEq, and_true] at e
  obtain ⟨rfl, rfl⟩ := e
  exact ⟨g, h1, fun j u hu => by rw [← Nat.zero_add (i * 13)]; exact hc j u hu⟩
end SitC
theorem gL_run (y : Gr) (m : Int) : ∀ t, t < 5 → (gL { y with st := 2, m := m, seq := y.seq + 1 })[t]? = if 2 ≤ t ∧ t < 2 + [Value.int .i64 2, .int .i64 m, .int .i64 (y.seq + 1)].length then [Value.int .i64 2, .int .i64 m, .int .i64 (y.seq + 1)][t - 2]? else (gL y)[t]? := by
  intro t ht
  obtain rfl | rfl | rfl | rfl | rfl : t = 0 ∨ t = 1 ∨ t = 2 ∨ t = 3 ∨ t = 4 := by omega
  all_goals rfl
theorem pair_set (p g n : Int) : ∀ t, t < 2 → (pairL (p, n))[t]? = if 1 ≤ t ∧ t < 1 + [Value.int .i64 n].length then [Value.int .i64 n][t - 1]? else (pairL (p, g))[t]? := by
  intro t ht
  obtain rfl | rfl : t = 0 ∨ t = 1 := by omega
  all_goals rfl
set_option maxRecDepth 100000 in
set_option maxHeartbeats 4000000 in
theorem flooks_any (h : StH) (s : St) (p : Int) (r : Bool) (hr : s.looks p = r) (w : World) (hk : StOk w h s) (hf : StFew s) : Calls Try.prog 84 #[stV h s, .int .i64 p] w fun e w' => e = .returned (.bool r) ∧ Ext w w' := by
  have HRR := Lib.hid hr
  have HF := Lib.hid hf
  clear hr
  have HK := Lib.hid hk
  obtain ⟨w1, hw1⟩ : ∃ w1, w.alloc (.cells #[.slice h.pa s.prog.length h.pc, .slice h.ga s.gs.length h.gc, .slice h.qa s.ps.length h.qc, .slice h.ma s.ms.length h.mc, .slice h.la s.glob.length h.lc, .int .i64 s.c0, .int .i64 s.c1, .int .i64 s.c2, .int .i64 s.c3, .slice h.a0 s.w0.length h.k0, .slice h.a1 s.w1.length h.k1, .slice h.a2 s.w2.length h.k2, .slice h.a3 s.w3.length h.k3, .slice h.ta s.timers.length h.tc, .int .i64 s.clock, .int .i64 s.procs] 32) = w1 := ⟨_, rfl⟩
  have HX1 : Hid (Ext w w1) := Lib.hid (by rw [← hw1]; exact (Ext.refl w).alloc _)
  have HB1 : Hid (w1.heap[w.heap.size]? = some (.cells (stC h s) 32 (0, 0))) := Lib.hid (by rw [← hw1]; exact blk_new w _)
  have HK1 := Lib.hid (hk.ext HX1.out)
  have HW1 := Lib.hid hw1
  clear hw1 hk
  clear hf
  unfold stV
  go_enter Try.func84, Try.ntmps84
  go_upto_region 1 with fail
  rw [HW1.out]
  generalize Value.agg #[.slice h.pa s.prog.length h.pc, .slice h.ga s.gs.length h.gc, .slice h.qa s.ps.length h.qc, .slice h.ma s.ms.length h.mc, .slice h.la s.glob.length h.lc, .int .i64 s.c0, .int .i64 s.c1, .int .i64 s.c2, .int .i64 s.c3, .slice h.a0 s.w0.length h.k0, .slice h.a1 s.w1.length h.k1, .slice h.a2 s.w2.length h.k2, .slice h.a3 s.w3.length h.k3, .slice h.ta s.timers.length h.tc, .int .i64 s.clock, .int .i64 s.procs] = sv0
  go_wp2_with (refine wpList_load_rowW (by rfl) 32 _ rfl w.heap.size (by go_simp) (stL h s) (stV h s) rfl _ (range_row HB1.out) Try.underlying32 rfl (by kernel_rfl) ?_)
  refine (sstmay_any h s _ rfl _ HK1.out HF.out).mono ?_
  rintro e wa ⟨rfl, hxa⟩
  have HXA := Lib.hid (HX1.out.trans hxa)
  have HBA := Lib.hid (hxa.blk HB1.out)
  clear hxa
  cases bm : s.may with
  | false =>
    have HQ : Hid (r = false) := Lib.hid (by rw [← HRR.out]; exact St.looks_no_may bm)
    clear bm
    go_wp2
    go_ret
    exact ⟨by rw [HQ.out] <;> rfl, HXA.out⟩
  | true =>
  have HM := Lib.hid bm
  clear bm
  go_wp2_with (refine wpList_load_rowW (by rfl) 32 _ rfl w.heap.size (by go_simp) (stL h s) (stV h s) rfl _ (range_row HBA.out) Try.underlying32 rfl (by kernel_rfl) ?_)
  refine (finuse_any h s p _ rfl wa (HK.out.ext HXA.out)).mono ?_
  rintro e wb ⟨rfl, hxb⟩
  have HXB := Lib.hid (HXA.out.trans hxb)
  have HBB := Lib.hid (hxb.blk HBA.out)
  clear hxb
  cases bi : decide (1 ≤ p ∧ p ≤ s.procs) with
  | false =>
    have HQ : Hid (r = false) := Lib.hid (by rw [← HRR.out]; exact St.looks_no_use (of_decide_eq_false bi))
    clear bi
    go_wp2
    go_ret
    exact ⟨by rw [HQ.out] <;> rfl, HXB.out⟩
  | true =>
  have hpp := of_decide_eq_true bi
  clear bi
  have hps := St.may_procs HM.out
  obtain ⟨i, rfl⟩ : ∃ i : Nat, p = (i : Int) + 1 := ⟨(p - 1).toNat, by omega⟩
  obtain ⟨x, hx⟩ : ∃ x, s.ps[i]? = some x := ⟨_, List.getElem?_eq_getElem (by omega)⟩
  have HP := Lib.hid hx
  have e1 : (i : Int) + 1 - 1 = (i : Int) := by omega
  have e4 : (i : Int) < (s.ps.length : Int) := by omega
  have e5 : (i : Int) < 100000 := by have := HF.out.ps; omega
  obtain ⟨bq, oq, hqa, hqb, hqc⟩ := ((HK.out.ext HXB.out).ps).get hx
  have c0 : wb.cell? ⟨bq, oq + i * 13, none⟩ = some (.int .i64 x.m) := hqc 0 _ rfl
  have q2 : wb.cell? ⟨w.heap.size, 2, none⟩ = some (.slice (some ⟨bq, oq, none⟩) s.ps.length h.qc) := by rw [← hqa]; exact st2 HBB.out
  have HIU : Hid ((i : Int) + 1 ≤ s.procs) := Lib.hid hpp.2
  clear hpp hps hx hqa hqb hqc
  go_upto_region 4 with fail
  clear e1 e4 e5 c0 q2
  by_cases h0 : x.m = 0
  · have h0' : (x.m != 0) = false := by simpa using h0
    have HQ : Hid (r = false) := Lib.hid (by rw [← HRR.out]; unfold St.looks; rw [St.pAt_of HP.out, decide_eq_false (show ¬ x.m ≠ 0 by simpa using h0)]; simp)
    clear h0
    go_wp2
    go_ret
    exact ⟨by rw [HQ.out] <;> rfl, HXB.out⟩
  · have h0' : (x.m != 0) = true := by simpa using h0
    obtain ⟨j, g, e, hj⟩ := St.may_pm HM.out HP.out h0
    have hjl := (List.getElem?_eq_some_iff.1 hj).1
    have HE := Lib.hid e
    have HJ := Lib.hid hj
    obtain ⟨bm, om, hma, hmb, hmc⟩ := ((HK.out.ext HXB.out).ms).get hj
    have c1 : wb.cell? ⟨bm, om + j * 2 + 1, none⟩ = some (.int .i64 g) := hmc 1 _ rfl
    have q3 : wb.cell? ⟨w.heap.size, 3, none⟩ = some (.slice (some ⟨bm, om, none⟩) s.ms.length h.mc) := by rw [← hma]; exact st3 HBB.out
    have e1 : x.m - 1 = (j : Int) := by omega
    have e4 : (j : Int) < (s.ms.length : Int) := by omega
    have e5 : (j : Int) < 100000 := by have := HF.out.ms; omega
    have e6 : (1 : Int) ≤ x.m := by omega
    have e7 : x.m ≤ 100001 := by have := HF.out.ms; omega
    have HQ : Hid (r = (g == 0)) := Lib.hid (by
      rw [← HRR.out]
      unfold St.looks
      rw [HM.out, St.pAt_of HP.out, e, St.mAt_of hj, decide_eq_true (show 1 ≤ (i : Int) + 1 ∧ (i : Int) + 1 ≤ s.procs from ⟨by omega, HIU.out⟩), decide_eq_true (show (j : Int) + 1 ≠ 0 by omega)]
      by_cases hg : g = 0 <;> simp [hg])
    clear h0 e hj hjl hma hmb hmc
    go_wp2
    go_ret
    exact ⟨by rw [HQ.out] <;> rfl, HXB.out⟩
set_option maxRecDepth 100000 in
set_option maxHeartbeats 4000000 in
theorem frun_any (W0 R B i j k : Nat) (C : List Value) (h : StH) (s : St) (x : Pr) (y : Gr) (q : Int × Int) (w0 w : World) (hs : SitC w0 W0 R B w C h s) (hc : C[1]? = some (.slice h.ga s.gs.length h.gc) ∧ C[2]? = some (.slice h.qa s.ps.length h.qc) ∧ C[3]? = some (.slice h.ma s.ms.length h.mc))
    (hx : s.ps[i]? = some x) (hm : x.m = (j : Int) + 1) (hq : s.ms[j]? = some q) (hy : s.gs[k]? = some y) (hseq : 0 ≤ y.seq ∧ y.seq < 4611686018427387904) (hf : StFew s) :
    Calls Try.prog 89 #[.pointer (some ⟨W0, 0, none⟩), .int .i64 ((i : Int) + 1), .int .i64 ((k : Int) + 1)] w fun e w' => e = .returned (.tuple #[]) ∧ SitC w0 W0 R B w' C h (s.runG ((i : Int) + 1) ((k : Int) + 1)) := by
  have HC1 : Hid (StFew s) := Lib.hid hf
  rw [St.runG_eq hx hm hq hy]
  have hil := (List.getElem?_eq_some_iff.1 hx).1
  have hjl := (List.getElem?_eq_some_iff.1 hq).1
  have hkl := (List.getElem?_eq_some_iff.1 hy).1
  obtain ⟨bp, hpa, hpr⟩ := hs.getP hx
  obtain ⟨bg, hga, hgB, hgl, hgr, hgt, hs1⟩ := hs.setG hy (x' := { y with st := 2, m := (j : Int) + 1, seq := y.seq + 1 }) (j := 2) (ds := [.int .i64 2, .int .i64 ((j : Int) + 1), .int .i64 (y.seq + 1)]) (Nat.le_refl 5) (gL_run y _)
  obtain ⟨w1, hw1⟩ : ∃ w1, w.setCells bg (k * 5 + 2) [.int .i64 2, .int .i64 ((j : Int) + 1), .int .i64 (y.seq + 1)] = w1 := ⟨_, rfl⟩
  rw [hw1] at hs1
  obtain ⟨bm, hma, hmB, hml, hmr, hmt, hs2⟩ := hs1.setM (i := j) (x := q) (show ({ s with gs := s.gs.set k { y with st := 2, m := (j : Int) + 1, seq := y.seq + 1 } } : St).ms[j]? = some q from hq) (x' := (q.1, (k : Int) + 1)) (j := 1) (ds := [.int .i64 ((k : Int) + 1)]) (Nat.le_refl 2) (pair_set q.1 q.2 _)
  obtain ⟨w2, hw2⟩ : ∃ w2, w1.setCell ⟨bm, j * 2 + 1, none⟩ (.int .i64 ((k : Int) + 1)) = w2 := ⟨_, rfl⟩
  have HS2 : Hid (SitC w0 W0 R B w2 C h { s with gs := s.gs.set k { y with st := 2, m := (j : Int) + 1, seq := y.seq + 1 }, ms := s.ms.set j (q.1, (k : Int) + 1) }) := Lib.hid (by rw [← hw2]; exact hs2)
  have q1 : w.cell? ⟨W0, 1, none⟩ = some (.slice (some ⟨bg, 0, none⟩) s.gs.length h.gc) := by rw [← hga]; exact blk_cell hs.box 1 _ (by rw [List.getElem?_toArray]; exact hc.1)
  have q2 : w.cell? ⟨W0, 2, none⟩ = some (.slice (some ⟨bp, 0, none⟩) s.ps.length h.qc) := by rw [← hpa]; exact blk_cell hs.box 2 _ (by rw [List.getElem?_toArray]; exact hc.2.1)
  have q3 : w1.cell? ⟨W0, 3, none⟩ = some (.slice (some ⟨bm, 0, none⟩) s.ms.length h.mc) := by rw [← hma]; exact blk_cell hs1.box 3 _ (by rw [List.getElem?_toArray]; exact hc.2.2)
  have p0 : w.cell? ⟨bp, i * 13, none⟩ = some (.int .i64 ((j : Int) + 1)) := by rw [← hm]; exact hpr 0 _ rfl
  have c2 : w.cell? ⟨bg, k * 5 + 2, none⟩ = some (.int .i64 y.st) := hgr 2 _ rfl
  have c3 : w.cell? ⟨bg, k * 5 + 3, none⟩ = some (.int .i64 y.m) := hgr 3 _ rfl
  have c4 : w.cell? ⟨bg, k * 5 + 4, none⟩ = some (.int .i64 y.seq) := hgr 4 _ rfl
  have f2 := (hgt 0 (by simp)).2
  have f3 := (hgt 1 (by simp)).2
  have f4 := (hgt 2 (by simp)).2
  rw [Nat.add_zero] at f2
  have m1 : w1.cell? ⟨bm, j * 2 + 1, none⟩ = some (.int .i64 q.2) := hmr 1 _ rfl
  have fm := (hmt 0 (by simp)).2
  rw [Nat.add_zero] at fm
  have e1 : (i : Int) + 1 - 1 = (i : Int) := by omega
  have e2 : (i : Int) < (s.ps.length : Int) := by omega
  have e3 : (i : Int) < 100000 := by have := HC1.out.ps; omega
  have e4 : (k : Int) + 1 - 1 = (k : Int) := by omega
  have e5 : (k : Int) < (s.gs.length : Int) := by omega
  have e6 : (k : Int) < 100000 := by have := HC1.out.gs; omega
  have e7 : (j : Int) + 1 - 1 = (j : Int) := by omega
  have e8 : (j : Int) < (s.ms.length : Int) := by omega
  have e9 : (j : Int) < 100000 := by have := HC1.out.ms; omega
  have HW1 : Hid (((w.setCell ⟨bg, k * 5 + 2, none⟩ (.int .i64 2)).setCell ⟨bg, k * 5 + 3, none⟩ (.int .i64 ((j : Int) + 1))).setCell ⟨bg, k * 5 + 4, none⟩ (.int .i64 (y.seq + 1)) = w1) := Lib.hid hw1
  have HW2 := Lib.hid hw2
  clear hs hc hx hm hq hy hil hjl hkl hpa hpr hga hgB hgl hgr hgt hs1 hw1 hma hmB hml hmr hmt hs2 hw2 hf
  go_enter Try.func89, Try.ntmps89
  go_upto_region 5 with (rw [HW1.out])
  try rw [HW1.out]
  go_wp2_with (rw [HW2.out])
  go_end0
  exact ⟨rfl, HS2.out⟩
end Go.Proofs.Ytogcfndhcphpaaa
namespace Go.Proofs.Ytogcfndhcphpaaa
open Go.RowKit
namespace St
def own (s : St) (i : Nat) (x : Pr) : St × Int := if x.next ≠ 0 then ({ s with ps := s.ps.set i { x with next := 0 } }, x.next) else if x.ring.pop.2.2 = true then ({ s with ps := s.ps.set i { x with ring := x.ring.pop.1 } }, x.ring.pop.2.1) else (s, 0)
end St
theorem OwnInts.capY {w : World} {B n c : Nat} {A : Option Addr} {l : List Int} (h : OwnInts w B (.slice A n c) l) : n = l.length ∧ n ≤ c := by
  rcases h.2 with ⟨hv, h0⟩ | ⟨g, cap, cur, hv, hb, hg, hn, _⟩
  · simp only [Value.slice.injEq] at hv
    omega
  · simp only [Value.slice.injEq] at hv
    omega
set_option maxRecDepth 100000 in
set_option maxHeartbeats 4000000 in
theorem fown_any (W0 R B i : Nat) (h : StH) (s : St) (x : Pr) (q : St × Int) (w0 w : World) (hs : Sit w0 W0 R B w h s) (hx : s.ps[i]? = some x) (hb8 : x.ring.buf.length = 8) (hf : StFew s) (hq : s.own i x = q) :
    Calls Try.prog 85 #[.pointer (some ⟨W0, 0, none⟩), .int .i64 ((i : Int) + 1)] w fun e w' => e = .returned (.int .i64 q.2) ∧ Sit w0 W0 R B w' h q.1 := by
  have HQ := Lib.hid hq
  have S1 := Lib.hid hs
  have HF := Lib.hid hf
  have HP0 := Lib.hid hx
  have hil := (List.getElem?_eq_some_iff.1 hx).1
  obtain ⟨m, nx, r0, sq⟩ := x
  obtain ⟨b0, b1, b2, b3, b4, b5, b6, b7, hd, nn, rfl⟩ := Ri.open8 hb8
  have HP := Lib.hid hx
  obtain ⟨bq, hqa, hqB, hqr⟩ := hs.getP hx
  have q2 : w.cell? ⟨W0, 2, none⟩ = some (.slice (some ⟨bq, 0, none⟩) s.ps.length h.qc) := by rw [← hqa]; exact st2 hs.box
  have c1 : w.cell? ⟨bq, i * 13 + 1, none⟩ = some (.int .i64 nx) := hqr 1 _ rfl
  have HQA := Lib.hid hqa
  have HRG := Lib.hid (range_ring hqr)
  have e1 : (i : Int) + 1 - 1 = (i : Int) := by omega
  have e2 : (i : Int) < (s.ps.length : Int) := by omega
  have e3 : (i : Int) < 100000 := by have := hf.ps; omega
  by_cases h0 : nx = 0
  · subst h0
    obtain ⟨⟨r1, g, ok⟩, hpop⟩ : ∃ z, Ri.pop ⟨[b0, b1, b2, b3, b4, b5, b6, b7], hd, nn⟩ = z := ⟨_, rfl⟩
    have hl1 := Ri.pop_len (r := ⟨[b0, b1, b2, b3, b4, b5, b6, b7], hd, nn⟩) rfl
    rw [hpop] at hl1
    obtain ⟨c0, c1, c2, c3, c4, c5, c6, c7, hd1, nn1, rfl⟩ := Ri.open8 hl1
    have HPO := Lib.hid hpop
    have hb0 : (Int.ofNat 0 != 0) = false := rfl
    clear hq hs hf hx hqa hqB hqr hpop hl1 hb8 hil
    go_enter Try.func85, Try.ntmps85
    go_upto_region 6 with fail
    obtain ⟨rv, hrv⟩ : ∃ rv, Value.agg #[.int .i64 b0, .int .i64 b1, .int .i64 b2, .int .i64 b3, .int .i64 b4, .int .i64 b5, .int .i64 b6, .int .i64 b7, .int .i64 hd, .int .i64 nn] = rv := ⟨_, rfl⟩
    have HRV := Lib.hid hrv
    clear hrv q2 e1 e2 e3
    go_wp2_with (refine wpList_load_rowM (by rfl) 38 _ rfl bq (i * 13 + 2) (by go_simp) (rL ⟨[b0, b1, b2, b3, b4, b5, b6, b7], hd, nn⟩) rv HRV.out.symm _ (HRG.out) Try.underlying38 rfl (by first | kernel_rfl | (rw [pL_len]; kernel_rfl)) ?_)
    rw [← HRV.out]
    refine (rpop_k b0 b1 b2 b3 b4 b5 b6 b7 hd nn c0 c1 c2 c3 c4 c5 c6 c7 hd1 nn1 g ok HPO.out w).mono ?_
    rintro e w6 ⟨rfl, hx6⟩
    have S6 := Lib.hid (S1.out.more hx6)
    clear hx6
    obtain ⟨BX6, hBX⟩ : ∃ BX6, w6.heap.size = BX6 := ⟨_, rfl⟩
    obtain ⟨va6, vb6, hva, hvb, hth, hbx, hxb⟩ := ring_box w6 (r := ⟨[c0, c1, c2, c3, c4, c5, c6, c7], hd1, nn1⟩) rfl
    rw [hBX] at hvb hth hbx
    have HBX6 := Lib.hid hBX
    have HVA6 := Lib.hid hva
    have HVB6 := Lib.hid hvb
    have HTA6 := Lib.hid hth
    have HBR6 := Lib.hid hbx
    have HXB6 := Lib.hid hxb
    have HGB6 := Lib.hid (range_row hbx)
    obtain ⟨rv6, hrv⟩ : ∃ rv6, Value.agg #[.int .i64 c0, .int .i64 c1, .int .i64 c2, .int .i64 c3, .int .i64 c4, .int .i64 c5, .int .i64 c6, .int .i64 c7, .int .i64 hd1, .int .i64 nn1] = rv6 := ⟨_, rfl⟩
    have HRV6 := Lib.hid hrv
    rw [hrv]
    clear hBX hva hvb hth hbx hxb hrv
    have S7 := Lib.hid (S6.out.more HXB6.out)
    go_upto_region 7 with (first | rw [HVA6.out, HBX6.out] | (refine wpList_store_rowM rfl 38 _ _ rfl BX6 0 (rL ⟨[c0, c1, c2, c3, c4, c5, c6, c7], hd1, nn1⟩) rv6 (by go_simp) (by go_simp) HRV6.out.symm HTA6.out (by first | kernel_rfl | (rw [pL_len]; kernel_rfl)) (rL_one _) HVB6.out ?_))
    cases ok with
    | true =>
      obtain ⟨w8, hw8⟩ : ∃ w8, vb6.setCells bq (i * 13 + 2) (rL ⟨[c0, c1, c2, c3, c4, c5, c6, c7], hd1, nn1⟩) = w8 := ⟨_, rfl⟩
      have hst := S7.out.setP' HP.out HQA.out (x' := ⟨m, 0, ⟨[c0, c1, c2, c3, c4, c5, c6, c7], hd1, nn1⟩, sq⟩) (j := 2) (ds := rL ⟨[c0, c1, c2, c3, c4, c5, c6, c7], hd1, nn1⟩) (by rw [rL_len rfl]; decide) (pL_ring (x := ⟨m, 0, ⟨[b0, b1, b2, b3, b4, b5, b6, b7], hd, nn⟩, sq⟩) rfl rfl)
      rw [hw8] at hst
      have HTH8 := Lib.hid hst.1
      have HE : Hid (q = ({ s with ps := s.ps.set i ⟨m, 0, ⟨[c0, c1, c2, c3, c4, c5, c6, c7], hd1, nn1⟩, sq⟩ }, g)) := Lib.hid (by rw [← HQ.out]; unfold St.own; rw [if_neg (by simp)]; simp only [HPO.out]; rfl)
      have S8 : Hid (Sit w0 W0 R B w8 h q.1) := Lib.hid (by rw [HE.out]; exact hst.2)
      have HE2 : Hid (q.2 = g) := Lib.hid (by rw [HE.out])
      have HW8 := Lib.hid hw8
      clear hst hw8
      go_wp2_with (first | (refine wpList_load_rowM (by rfl) 38 _ rfl BX6 0 (by go_simp) (rL ⟨[c0, c1, c2, c3, c4, c5, c6, c7], hd1, nn1⟩) rv6 HRV6.out.symm _ (HGB6.out) Try.underlying38 rfl (by first | kernel_rfl | (rw [pL_len]; kernel_rfl)) ?_) | (refine wpList_store_rowM rfl 38 _ _ rfl bq (i * 13 + 2) (rL ⟨[c0, c1, c2, c3, c4, c5, c6, c7], hd1, nn1⟩) rv6 (by go_simp) (by go_simp) HRV6.out.symm HTH8.out (by first | kernel_rfl | (rw [pL_len]; kernel_rfl)) (rL_one _) HW8.out ?_))
      go_ret
      rw [HE2.out]
      exact ⟨rfl, S8.out⟩
    | false =>
      have HE : Hid (q = (s, 0)) := Lib.hid (by rw [← HQ.out]; unfold St.own; rw [if_neg (by simp)]; simp only [HPO.out]; rfl)
      have S8 : Hid (Sit w0 W0 R B vb6 h q.1) := Lib.hid (by rw [HE.out]; exact S7.out)
      have HE2 : Hid (q.2 = 0) := Lib.hid (by rw [HE.out])
      go_wp2
      go_ret
      rw [HE2.out]
      exact ⟨rfl, S8.out⟩
  · have h0' : (nx != 0) = true := by simpa using h0
    obtain ⟨w2, hw2⟩ : ∃ w2, w.setCell ⟨bq, i * 13 + 1, none⟩ (.int .i64 0) = w2 := ⟨_, rfl⟩
    have hst := hs.setP' hx hqa (x' := ⟨m, 0, ⟨[b0, b1, b2, b3, b4, b5, b6, b7], hd, nn⟩, sq⟩) (j := 1) (ds := [.int .i64 0]) (by show 2 ≤ 13; omega) (pL_next ⟨m, nx, ⟨[b0, b1, b2, b3, b4, b5, b6, b7], hd, nn⟩, sq⟩ 0)
    have f1 := (hst.1 0 (by simp)).2
    rw [Nat.add_zero] at f1
    have HE : Hid (q = ({ s with ps := s.ps.set i ⟨m, 0, ⟨[b0, b1, b2, b3, b4, b5, b6, b7], hd, nn⟩, sq⟩ }, nx)) := Lib.hid (by rw [← HQ.out]; unfold St.own; rw [if_pos h0])
    have S2 : Hid (Sit w0 W0 R B w2 h q.1) := Lib.hid (by rw [HE.out, ← hw2]; exact hst.2)
    have HE2 : Hid (q.2 = nx) := Lib.hid (by rw [HE.out])
    have HW2 := Lib.hid hw2
    clear hq hs hf hx hqa hqB hqr hb8 hil hst hw2 h0
    go_enter Try.func85, Try.ntmps85
    go_wp2_with (rw [HW2.out])
    go_ret
    rw [HE2.out]
    exact ⟨rfl, S2.out⟩
set_option maxRecDepth 100000 in
set_option maxHeartbeats 4000000 in
theorem fglobal_nil (W0 R B : Nat) (h : StH) (s : St) (w0 w : World) (hs : Sit w0 W0 R B w h s) (hg : s.glob = []) : Calls Try.prog 86 #[.pointer (some ⟨W0, 0, none⟩)] w fun e w' => e = .returned (.int .i64 0) ∧ w' = w := by
  have q4 : w.cell? ⟨W0, 4, none⟩ = some (.slice h.la 0 h.lc) := by have := st4 hs.box; rw [hg] at this; exact this
  clear hs hg
  go_enter Try.func86, Try.ntmps86
  go_wp2
  go_ret
  exact ⟨rfl, rfl⟩
set_option maxRecDepth 100000 in
set_option maxHeartbeats 4000000 in
theorem fglobal_cons (W0 R B : Nat) (h : StH) (s : St) (g : Int) (l : List Int) (w0 w : World) (hs : Sit w0 W0 R B w h s) (hg : s.glob = g :: l) (hf : StFew s) : Calls Try.prog 86 #[.pointer (some ⟨W0, 0, none⟩)] w fun e w' => e = .returned (.int .i64 g) ∧ SitC w0 W0 R B w' (stL { h with la := advK h.la 1 h.lc, lc := h.lc - 1 } { s with glob := l }) h s := by
  obtain ⟨I, ha⟩ := hs.ap
  have hcap := ha.glob.1.capY.2
  have hlen : s.glob.length = l.length + 1 := by rw [hg]; rfl
  have hl0 : l.length < 100000 := by have := hf.glob; omega
  obtain ⟨bg, og, hla, hbg, hcg⟩ := ints_get ha.glob.1.at.2 (k := 0) (by rw [hg]; rfl)
  rw [Nat.add_zero] at hcg
  have q4 : w.cell? ⟨W0, 4, none⟩ = some (.slice h.la (l.length + 1) h.lc) := by rw [← hlen]; exact st4 hs.box
  rw [hlen] at hcap
  have S1 : ∀ v, (Instr.slice 27 (.slice h.la (l.length + 1) h.lc) (some (.int .i64 1)) none none).run Try.prog v = .ok (.slice (advK h.la 1 h.lc) l.length (h.lc - 1)) v := fun v => irun_from h.la (l.length + 1) h.lc 1 (by omega) hcap v
  have z4 := frozen_of_row _ _ 4 _ _ hs.box
  obtain ⟨w1, hw1⟩ : ∃ w1, w.setCell ⟨W0, 4, none⟩ (.slice (advK h.la 1 h.lc) l.length (h.lc - 1)) = w1 := ⟨_, rfl⟩
  have hu : Upd W0 w w1 := by rw [← hw1]; exact (Upd.refl W0 w).set 4 _
  have HS : Hid (SitC w0 W0 R B w1 (stL { h with la := advK h.la 1 h.lc, lc := h.lc - 1 } { s with glob := l }) h s) := Lib.hid (by
    have lo := hs.lo
    exact ⟨by rw [← hw1]; exact blk_set hs.box 4 _, (hu.block R (by have := blk_lt hs.res; omega) (fun e => by injection e; omega)).trans hs.res, ⟨I, ha.far (But.upd (S := fun b => b = W0) hu rfl) (fun b hb => by omega)⟩, hs.ext.upd hu (by omega), by have := hu.size; omega⟩)
  have HW1 := Lib.hid hw1
  have HLA := Lib.hid hla
  have e1 : (0 : Int) < ((l.length + 1 : Nat) : Int) := by omega
  clear hs hg hf ha hcap hlen hbg hw1 hu
  obtain ⟨la, hla'⟩ : ∃ la, h.la = la := ⟨_, rfl⟩
  rw [hla'] at q4 S1 hla
  have HLA' := Lib.hid hla'
  clear hla'
  subst hla
  go_enter Try.func86, Try.ntmps86
  go_wp2_with (rw [← HLA'.out, HW1.out])
  go_ret
  exact ⟨rfl, HS.out⟩
set_option maxRecDepth 100000 in
set_option maxHeartbeats 4000000 in
theorem r14looks_any (h : StH) (s : St) (p : Int) (r : Bool) (hr : s.looks p = r) (w : World) (hk : StOk w h s) (hf : StFew s) : Calls Try.prog 35 #[stV h s, .int .i64 p] w fun e w' => e = .returned (.bool r) ∧ Ext w w' := by
  have HRR := Lib.hid hr
  have HF := Lib.hid hf
  clear hr
  have HK := Lib.hid hk
  obtain ⟨w1, hw1⟩ : ∃ w1, w.alloc (.cells #[.slice h.pa s.prog.length h.pc, .slice h.ga s.gs.length h.gc, .slice h.qa s.ps.length h.qc, .slice h.ma s.ms.length h.mc, .slice h.la s.glob.length h.lc, .int .i64 s.c0, .int .i64 s.c1, .int .i64 s.c2, .int .i64 s.c3, .slice h.a0 s.w0.length h.k0, .slice h.a1 s.w1.length h.k1, .slice h.a2 s.w2.length h.k2, .slice h.a3 s.w3.length h.k3, .slice h.ta s.timers.length h.tc, .int .i64 s.clock, .int .i64 s.procs] 32) = w1 := ⟨_, rfl⟩
  have HX1 : Hid (Ext w w1) := Lib.hid (by rw [← hw1]; exact (Ext.refl w).alloc _)
  have HB1 : Hid (w1.heap[w.heap.size]? = some (.cells (stC h s) 32 (0, 0))) := Lib.hid (by rw [← hw1]; exact blk_new w _)
  have HK1 := Lib.hid (hk.ext HX1.out)
  have HW1 := Lib.hid hw1
  clear hw1 hk
  clear hf
  unfold stV
  go_enter Try.func35, Try.ntmps35
  go_upto_region 1 with fail
  rw [HW1.out]
  generalize Value.agg #[.slice h.pa s.prog.length h.pc, .slice h.ga s.gs.length h.gc, .slice h.qa s.ps.length h.qc, .slice h.ma s.ms.length h.mc, .slice h.la s.glob.length h.lc, .int .i64 s.c0, .int .i64 s.c1, .int .i64 s.c2, .int .i64 s.c3, .slice h.a0 s.w0.length h.k0, .slice h.a1 s.w1.length h.k1, .slice h.a2 s.w2.length h.k2, .slice h.a3 s.w3.length h.k3, .slice h.ta s.timers.length h.tc, .int .i64 s.clock, .int .i64 s.procs] = sv0
  go_wp2_with (refine wpList_load_rowW (by rfl) 32 _ rfl w.heap.size (by go_simp) (stL h s) (stV h s) rfl _ (range_row HB1.out) Try.underlying32 rfl (by kernel_rfl) ?_)
  refine (rstmay_any h s _ rfl _ HK1.out HF.out).mono ?_
  rintro e wa ⟨rfl, hxa⟩
  have HXA := Lib.hid (HX1.out.trans hxa)
  have HBA := Lib.hid (hxa.blk HB1.out)
  clear hxa
  cases bm : s.may with
  | false =>
    have HQ : Hid (r = false) := Lib.hid (by rw [← HRR.out]; exact St.looks_no_may bm)
    clear bm
    go_wp2
    go_ret
    exact ⟨by rw [HQ.out] <;> rfl, HXA.out⟩
  | true =>
  have HM := Lib.hid bm
  clear bm
  have q15 := st15 HBA.out
  by_cases bi : 1 ≤ p ∧ p ≤ s.procs
  case neg =>
    have HQ : Hid (r = false) := Lib.hid (by rw [← HRR.out]; exact St.looks_no_use bi)
    by_cases b1 : p < 1
    · clear bi
      go_wp2
      go_ret
      exact ⟨by rw [HQ.out] <;> rfl, HXA.out⟩
    · have b2 : s.procs < p := by omega
      clear bi
      go_wp2
      go_ret
      exact ⟨by rw [HQ.out] <;> rfl, HXA.out⟩
  have hpp := bi
  have d1 : ¬ p < 1 := by omega
  have d2 : ¬ s.procs < p := by omega
  clear bi
  obtain ⟨wb, hwb⟩ : ∃ wb, wa = wb := ⟨_, rfl⟩
  subst hwb
  have HXB := Lib.hid HXA.out
  have HBB := Lib.hid HBA.out
  have hps := St.may_procs HM.out
  obtain ⟨i, rfl⟩ : ∃ i : Nat, p = (i : Int) + 1 := ⟨(p - 1).toNat, by omega⟩
  obtain ⟨x, hx⟩ : ∃ x, s.ps[i]? = some x := ⟨_, List.getElem?_eq_getElem (by omega)⟩
  have HP := Lib.hid hx
  have e1 : (i : Int) + 1 - 1 = (i : Int) := by omega
  have e4 : (i : Int) < (s.ps.length : Int) := by omega
  have e5 : (i : Int) < 100000 := by have := HF.out.ps; omega
  obtain ⟨bq, oq, hqa, hqb, hqc⟩ := ((HK.out.ext HXB.out).ps).get hx
  have c0 : wa.cell? ⟨bq, oq + i * 13, none⟩ = some (.int .i64 x.m) := hqc 0 _ rfl
  have q2 : wa.cell? ⟨w.heap.size, 2, none⟩ = some (.slice (some ⟨bq, oq, none⟩) s.ps.length h.qc) := by rw [← hqa]; exact st2 HBB.out
  have HIU : Hid ((i : Int) + 1 ≤ s.procs) := Lib.hid hpp.2
  have f1 : decide ((i : Int) + 1 < 1) = false := decide_eq_false (by omega)
  have f2 : decide (s.procs < (i : Int) + 1) = false := decide_eq_false (by omega)
  clear hpp hps hx hqa hqb hqc d1 d2
  go_upto_region 4 with fail
  clear e1 e4 e5 c0 q2 q15 f1 f2
  by_cases h0 : x.m = 0
  · have h0' : ¬ (0 : Int) < x.m := by omega
    have HQ : Hid (r = false) := Lib.hid (by rw [← HRR.out]; unfold St.looks; rw [St.pAt_of HP.out, decide_eq_false (show ¬ x.m ≠ 0 by simpa using h0)]; simp)
    clear h0
    go_wp2
    go_ret
    exact ⟨by rw [HQ.out] <;> rfl, HXB.out⟩
  · obtain ⟨j, g, e, hj⟩ := St.may_pm HM.out HP.out h0
    have hjl := (List.getElem?_eq_some_iff.1 hj).1
    have HE := Lib.hid e
    have HJ := Lib.hid hj
    obtain ⟨bm, om, hma, hmb, hmc⟩ := ((HK.out.ext HXB.out).ms).get hj
    have c1 : wa.cell? ⟨bm, om + j * 2 + 1, none⟩ = some (.int .i64 g) := hmc 1 _ rfl
    have q3 : wa.cell? ⟨w.heap.size, 3, none⟩ = some (.slice (some ⟨bm, om, none⟩) s.ms.length h.mc) := by rw [← hma]; exact st3 HBB.out
    have e1 : x.m - 1 = (j : Int) := by omega
    have e4 : (j : Int) < (s.ms.length : Int) := by omega
    have e5 : (j : Int) < 100000 := by have := HF.out.ms; omega
    have e6 : (1 : Int) ≤ x.m := by omega
    have h0' : (0 : Int) < x.m := by omega
    have e8 : max (j : Int) 0 = (j : Int) := by omega
    have e7 : x.m ≤ 100001 := by have := HF.out.ms; omega
    have HQ : Hid (r = (g == 0)) := Lib.hid (by
      rw [← HRR.out]
      unfold St.looks
      rw [HM.out, St.pAt_of HP.out, e, St.mAt_of hj, decide_eq_true (show 1 ≤ (i : Int) + 1 ∧ (i : Int) + 1 ≤ s.procs from ⟨by omega, HIU.out⟩), decide_eq_true (show (j : Int) + 1 ≠ 0 by omega)]
      by_cases hg : g = 0 <;> simp [hg])
    clear h0 e hj hjl hma hmb hmc
    go_wp2
    go_ret
    exact ⟨by rw [HQ.out] <;> rfl, HXB.out⟩
end Go.Proofs.Ytogcfndhcphpaaa
namespace Go.Proofs.Ytogcfndhcphpaaa
open Go.RowKit
namespace St
theorem mem_queue_next {p : Pr} (h : p.next ≠ 0) : p.next ∈ queueOf p := by unfold queueOf; rw [if_pos h]; simp
theorem mem_queue_ring {p : Pr} {n : Int} (h : n ∈ p.ring.list) : n ∈ queueOf p := by unfold queueOf; exact List.mem_append_right _ h
end St
end Go.Proofs.Ytogcfndhcphpaaa
namespace Go.Proofs.Ytogcfndhcphpaaa
open Go.RowKit
namespace St
def tails (s : St) (p : Int) (l : List Int) : St := l.foldl (fun t g => t.tail p g) s
def steal (s : St) (p : Int) (vi : Nat) (v : Pr) : St × Int := match v.ring.half.2 with
  | [] => ({ s with ps := s.ps.set vi { v with next := 0 } }, v.next)
  | g :: l => (({ s with ps := s.ps.set vi { v with ring := v.ring.half.1 } } : St).tails p l, g)
theorem tails_good {p : Int} : ∀ {l : List Int} {s : St}, StGood s → s.glob.length + 9 * l.length ≤ 90000 → StGood (s.tails p l) ∧ (s.tails p l).glob.length ≤ s.glob.length + 9 * l.length
  | [], s, h, _ => ⟨h, by show s.glob.length ≤ _; omega⟩
  | g :: l, s, h, hl => by
    have e := (tail_parts s p g).2.2.2.2.2.2.2.2
    have := tails_good (p := p) (l := l) (tail_good h (by omega) p g) (by simp only [List.length_cons] at hl; omega)
    exact ⟨this.1, by have h2 := this.2; simp only [List.length_cons]; show (tails (s.tail p g) p l).glob.length ≤ _; omega⟩
theorem tails_take {p : Int} {l : List Int} {s : St} {k : Nat} {g : Int} (hk : l[k]? = some g) : s.tails p (l.take (k + 1)) = (s.tails p (l.take k)).tail p g := by
  unfold tails
  rw [List.take_add_one, hk, List.foldl_append]
  rfl
end St
theorem Sit.again {w v c : World} {W0 R B : Nat} {h h' : StH} {s s' : St} {I : Nat → Nat × Nat} (k : Sit w W0 R B v h s) (hx : Ext v c) (ha : StApart v.heap.size c I h' s') : c.there W0 0 (stL h' s').length ∧ Sit w W0 R B (c.setCells W0 0 (stL h' s')) h' s' := by
  have l := k.lo
  obtain ⟨h1, h2⟩ := Sit.start (w := w) rfl k.ext k.box k.res hx ha l.2.2.1 l.2.2.2.1 l.2.2.2.2.1
  have l2 := h2.lo
  obtain ⟨J, hJ⟩ := h2.ap
  exact ⟨h1, h2.box, h2.res, ⟨J, hJ.lower l.2.2.2.2.2⟩, h2.ext, by omega⟩
set_option maxRecDepth 100000 in
set_option maxHeartbeats 8000000 in
theorem fsteal_any (W0 R B vi : Nat) (p : Int) (h : StH) (s : St) (v : Pr) (q : St × Int) (w0 w : World) (hs : Sit w0 W0 R B w h s) (hv : s.ps[vi]? = some v) (hg : StGood s) (hgl : s.glob.length ≤ 80) (hmv : v.ring.may = true) (hq : s.steal p vi v = q) :
    Calls Try.prog 88 #[.pointer (some ⟨W0, 0, none⟩), .int .i64 p, .int .i64 ((vi : Int) + 1)] w fun e w' => e = .returned (.int .i64 q.2) ∧ ∃ h', Sit w0 W0 R B w' h' q.1 := by
  have HQ := Lib.hid hq
  have S1 := Lib.hid hs
  have HG := Lib.hid hg
  have HGL := Lib.hid hgl
  have hb8 := hg.buf v (List.mem_of_getElem? hv)
  have hil := (List.getElem?_eq_some_iff.1 hv).1
  have hf := hg.few
  obtain ⟨m, nx, r0, sq⟩ := v
  obtain ⟨b0, b1, b2, b3, b4, b5, b6, b7, hd, nn, rfl⟩ := Ri.open8 hb8
  have HP := Lib.hid hv
  have HMV : Hid (Ri.may ⟨[b0, b1, b2, b3, b4, b5, b6, b7], hd, nn⟩ = true) := Lib.hid hmv
  obtain ⟨bq, hqa, hqB, hqr⟩ := hs.getP hv
  have q2 : w.cell? ⟨W0, 2, none⟩ = some (.slice (some ⟨bq, 0, none⟩) s.ps.length h.qc) := by rw [← hqa]; exact st2 hs.box
  have HQA := Lib.hid hqa
  have HRG := Lib.hid (range_ring hqr)
  have e1 : (vi : Int) + 1 - 1 = (vi : Int) := by omega
  have e2 : (vi : Int) < (s.ps.length : Int) := by omega
  have e3 : (vi : Int) < 100000 := by have := hf.ps; omega
  obtain ⟨⟨r2, o⟩, hhalf⟩ : ∃ z, Ri.half ⟨[b0, b1, b2, b3, b4, b5, b6, b7], hd, nn⟩ = z := ⟨_, rfl⟩
  have hl2 := Ri.half_len (r := ⟨[b0, b1, b2, b3, b4, b5, b6, b7], hd, nn⟩) rfl
  rw [hhalf] at hl2
  obtain ⟨d0, d1, d2, d3, d4, d5, d6, d7, hd2, nn2, rfl⟩ := Ri.open8 hl2
  have HHA := Lib.hid hhalf
  have HOL : Hid (o.length ≤ 8) := Lib.hid (by have := Ri.half_olen (r := ⟨[b0, b1, b2, b3, b4, b5, b6, b7], hd, nn⟩) hmv; rwa [hhalf] at this)
  obtain ⟨rv, hrv⟩ : ∃ rv, Value.agg #[.int .i64 b0, .int .i64 b1, .int .i64 b2, .int .i64 b3, .int .i64 b4, .int .i64 b5, .int .i64 b6, .int .i64 b7, .int .i64 hd, .int .i64 nn] = rv := ⟨_, rfl⟩
  have HRV := Lib.hid hrv
  clear hq hs hg hgl hf hv hqa hqB hqr hhalf hl2 hb8 hil hmv hrv
  go_enter Try.func88, Try.ntmps88
  go_upto_region 2 with fail
  clear q2 e1 e2 e3
  go_wp2_with (refine wpList_load_rowM (by rfl) 38 _ rfl bq (vi * 13 + 2) (by go_simp) (rL ⟨[b0, b1, b2, b3, b4, b5, b6, b7], hd, nn⟩) rv HRV.out.symm _ (HRG.out) Try.underlying38 rfl (by first | kernel_rfl | (rw [pL_len]; kernel_rfl)) ?_)
  rw [← HRV.out]
  refine (rhalf_own b0 b1 b2 b3 b4 b5 b6 b7 hd nn d0 d1 d2 d3 d4 d5 d6 d7 hd2 nn2 o HHA.out w).mono ?_
  rintro e w6 ⟨Ao, co, rfl, hio, hx6⟩
  have S6 := Lib.hid (S1.out.more hx6)
  have HIO6 := Lib.hid hio
  clear hx6 hio
  obtain ⟨BX6, hBX⟩ : ∃ BX6, w6.heap.size = BX6 := ⟨_, rfl⟩
  obtain ⟨va6, vb6, hva, hvb, hth, hbx, hxb⟩ := ring_box w6 (r := ⟨[d0, d1, d2, d3, d4, d5, d6, d7], hd2, nn2⟩) rfl
  rw [hBX] at hvb hth hbx
  have HBX6 := Lib.hid hBX
  have HVA6 := Lib.hid hva
  have HVB6 := Lib.hid hvb
  have HTA6 := Lib.hid hth
  have HBR6 := Lib.hid hbx
  have HXB6 := Lib.hid hxb
  have HGB6 := Lib.hid (range_row hbx)
  obtain ⟨rv6, hrv⟩ : ∃ rv6, Value.agg #[.int .i64 d0, .int .i64 d1, .int .i64 d2, .int .i64 d3, .int .i64 d4, .int .i64 d5, .int .i64 d6, .int .i64 d7, .int .i64 hd2, .int .i64 nn2] = rv6 := ⟨_, rfl⟩
  have HRV6 := Lib.hid hrv
  rw [hrv]
  clear hBX hva hvb hth hbx hxb hrv
  have S7 := Lib.hid (S6.out.more HXB6.out)
  have HIO7 := Lib.hid (HIO6.out.ext HXB6.out)
  go_upto_region 3 with (first | rw [HVA6.out, HBX6.out] | (refine wpList_store_rowM rfl 38 _ _ rfl BX6 0 (rL ⟨[d0, d1, d2, d3, d4, d5, d6, d7], hd2, nn2⟩) rv6 (by go_simp) (by go_simp) HRV6.out.symm HTA6.out (by first | kernel_rfl | (rw [pL_len]; kernel_rfl)) (rL_one _) HVB6.out ?_))
  cases o with
  | nil =>
    have c1 : vb6.cell? ⟨bq, vi * 13 + 1, none⟩ = some (.int .i64 nx) := (S7.out.getP' HP.out HQA.out) 1 _ rfl
    obtain ⟨w2, hw2⟩ : ∃ w2, vb6.setCell ⟨bq, vi * 13 + 1, none⟩ (.int .i64 0) = w2 := ⟨_, rfl⟩
    have hst := S7.out.setP' HP.out HQA.out (x' := ⟨m, 0, ⟨[b0, b1, b2, b3, b4, b5, b6, b7], hd, nn⟩, sq⟩) (j := 1) (ds := [.int .i64 0]) (by show 2 ≤ 13; omega) (pL_next ⟨m, nx, ⟨[b0, b1, b2, b3, b4, b5, b6, b7], hd, nn⟩, sq⟩ 0)
    have f1 := (hst.1 0 (by simp)).2
    rw [Nat.add_zero] at f1
    have HE : Hid (q = ({ s with ps := s.ps.set vi ⟨m, 0, ⟨[b0, b1, b2, b3, b4, b5, b6, b7], hd, nn⟩, sq⟩ }, nx)) := Lib.hid (by rw [← HQ.out]; unfold St.steal; simp only [HHA.out])
    have S2 : Hid (Sit w0 W0 R B w2 h q.1) := Lib.hid (by rw [HE.out, ← hw2]; exact hst.2)
    have HE2 : Hid (q.2 = nx) := Lib.hid (by rw [HE.out])
    have HW2 := Lib.hid hw2
    clear hst hw2
    simp only [List.length_nil]
    go_wp2_with (rw [HW2.out])
    go_ret
    rw [HE2.out]
    exact ⟨rfl, h, S2.out⟩
  | cons g l =>
    obtain ⟨w8, hw8⟩ : ∃ w8, vb6.setCells bq (vi * 13 + 2) (rL ⟨[d0, d1, d2, d3, d4, d5, d6, d7], hd2, nn2⟩) = w8 := ⟨_, rfl⟩
    have hst := S7.out.setP' HP.out HQA.out (x' := ⟨m, nx, ⟨[d0, d1, d2, d3, d4, d5, d6, d7], hd2, nn2⟩, sq⟩) (j := 2) (ds := rL ⟨[d0, d1, d2, d3, d4, d5, d6, d7], hd2, nn2⟩) (by rw [rL_len rfl]; decide) (pL_ring (x := ⟨m, nx, ⟨[b0, b1, b2, b3, b4, b5, b6, b7], hd, nn⟩, sq⟩) rfl rfl)
    rw [hw8] at hst
    obtain ⟨s2, hs2⟩ : ∃ s2 : St, { s with ps := s.ps.set vi ⟨m, nx, ⟨[d0, d1, d2, d3, d4, d5, d6, d7], hd2, nn2⟩, sq⟩ } = s2 := ⟨_, rfl⟩
    rw [hs2] at hst
    have HTH8 := Lib.hid hst.1
    have S8 := Lib.hid hst.2
    have HW8 := Lib.hid hw8
    have HG2 : Hid (StGood s2) := Lib.hid (by
      rw [← hs2]
      have hf := HG.out.few
      refine ⟨⟨hf.prog, hf.gs, by show (s.ps.set vi _).length ≤ _; rw [List.length_set]; exact hf.ps, hf.ms, hf.glob, hf.w, hf.timers, hf.tnum⟩, fun p hp => ?_, HG.out.tim⟩
      rcases List.mem_or_eq_of_mem_set hp with hp | rfl
      · exact HG.out.buf p hp
      · rfl)
    have HGL2 : Hid (s2.glob.length ≤ 80) := Lib.hid (by rw [← hs2]; exact HGL.out)
    have HE : Hid (q = (s2.tails p l, g)) := Lib.hid (by rw [← HQ.out, ← hs2]; unfold St.steal; simp only [HHA.out])
    have HUB : Hid (bq < vb6.heap.size ∧ bq < w.heap.size ∧ W0 < w.heap.size) := Lib.hid ⟨S7.out.ltP HP.out HQA.out, S1.out.ltP HP.out HQA.out, blk_lt S1.out.box⟩
    have HIO8 : Hid (OwnInts w8 w.heap.size (.slice Ao (g :: l).length co) (g :: l)) := Lib.hid (by rw [← hw8]; exact HIO7.out.updB (setCells_upd _ _ _ _) HUB.out.2.1)
    have HCAP := Lib.hid HIO8.out.capY.2
    have HLL : Hid (l.length ≤ 7) := Lib.hid (by have := HOL.out; simp only [List.length_cons] at this; omega)
    clear hst hw8 hs2
    have hb0 : (((l.length : Int) + 1) == 0) = false := by simp; omega
    have T1 : ∀ v, (Instr.slice 27 (.slice Ao (l.length + 1) co) (some (.int .i64 1)) none none).run Try.prog v = .ok (.slice (advK Ao 1 co) l.length (co - 1)) v := fun v => irun_from Ao (l.length + 1) co 1 (by omega) HCAP.out v
    simp only [List.length_cons]
    go_upto_region 8 with (first | (refine wpList_load_rowM (by rfl) 38 _ rfl BX6 0 (by go_simp) (rL ⟨[d0, d1, d2, d3, d4, d5, d6, d7], hd2, nn2⟩) rv6 HRV6.out.symm _ (HGB6.out) Try.underlying38 rfl (by first | kernel_rfl | (rw [pL_len]; kernel_rfl)) ?_) | (refine wpList_store_rowM rfl 38 _ _ rfl bq (vi * 13 + 2) (rL ⟨[d0, d1, d2, d3, d4, d5, d6, d7], hd2, nn2⟩) rv6 (by go_simp) (by go_simp) HRV6.out.symm HTH8.out (by first | kernel_rfl | (rw [pL_len]; kernel_rfl)) (rL_one _) HW8.out ?_))
    clear hb0
    go_wp2_with fail
    clear T1
    obtain ⟨av, hav⟩ : ∃ av, advK Ao 1 co = av := ⟨_, rfl⟩
    rw [hav]
    have HAV := Lib.hid hav
    clear hav
    go_loopw [46] (fun iv wr => ∃ k : Nat, k ≤ l.length ∧ iv = .int .i64 k ∧ OwnInts wr w.heap.size (.slice Ao (g :: l).length co) (g :: l) ∧ ∃ h', Sit w0 W0 R B wr h' (s2.tails p (l.take k))) (fun iv _ => l.length - (intOf iv).toNat)
    case atStart => exact ⟨0, Nat.zero_le _, rfl, HIO8.out, h, S8.out⟩
    case round =>
      obtain ⟨k, hk, rfl, ho, h1, hsk⟩ := hrel
      have HO := Lib.hid ho
      have SK := Lib.hid hsk
      clear ho hsk
      by_cases hlt : k < l.length
      · obtain ⟨x, hx⟩ : ∃ x, l[k]? = some x := ⟨_, List.getElem?_eq_getElem hlt⟩
        obtain ⟨bo, oo, hA, hb, hcx⟩ := ints_get (HO.out.at.2.behind (k := 1) (by simp) HCAP.out) (k := k) (show ((g :: l).drop 1)[k]? = some x from hx)
        have HX := Lib.hid hx
        rw [HAV.out] at hA
        subst hA
        obtain ⟨sk, hsk⟩ : ∃ sk, s2.tails p (l.take k) = sk := ⟨_, rfl⟩
        have hgk := St.tails_good (p := p) (l := l.take k) HG2.out (by have := HGL2.out; have := HLL.out; rw [List.length_take]; omega)
        rw [hsk] at hgk SK
        have HGK := Lib.hid hgk.1
        have HNX : Hid (s2.tails p (l.take (k + 1)) = sk.tail p x) := Lib.hid (by rw [St.tails_take hx, hsk])
        have HGT : Hid (sk.glob.length ≤ 90000) := Lib.hid (by have a1 := hgk.2; have := HGL2.out; have := HLL.out; rw [List.length_take] at a1; omega)
        have HKK : Hid (StOk wr h1 sk) := Lib.hid (by obtain ⟨I, hI⟩ := SK.out.ap; exact hI.ok HGK.out.buf)
        have e1 : (k : Int) < (l.length : Int) := by omega
        have e2 : (k : Int) < 100000 := by have := HLL.out; omega
        have HW0 : Hid (W0 < w.heap.size) := Lib.hid HUB.out.2.2
        clear hx hb hgk hsk
        go_wp2_with (refine wpList_load_rowW (by rfl) 32 _ rfl W0 (by go_simp) (stL h1 sk) (stV h1 sk) rfl _ (range_row SK.out.box) Try.underlying32 rfl (by kernel_rfl) ?_)
        refine (rdTail_any h1 sk p x wr HKK.out HGK.out.few).mono ?_
        rintro e w9 ⟨h2, I, rfl, ha, hx9⟩
        obtain ⟨sn, hsn⟩ : ∃ sn, sk.tail p x = sn := ⟨_, rfl⟩
        rw [hsn] at ha ⊢
        have hst := SK.out.again hx9 ha
        obtain ⟨wa, hwa⟩ : ∃ wa, w9.setCells W0 0 (stL h2 sn) = wa := ⟨_, rfl⟩
        rw [hwa] at hst
        have HTA := Lib.hid hst.1
        have NS : Hid (Sit w0 W0 R B wa h2 (s2.tails p (l.take (k + 1)))) := Lib.hid (by rw [HNX.out, hsn]; exact hst.2)
        have NO : Hid (OwnInts wa w.heap.size (.slice Ao (g :: l).length co) (g :: l)) := Lib.hid (by rw [← hwa]; exact (HO.out.ext hx9).updB (setCells_upd _ _ _ _) HW0.out)
        have HWA := Lib.hid hwa
        clear ha hx9 hsn hst hwa hcx
        go_wp2_with (refine wpList_store_row rfl 32 _ _ rfl W0 (stL h2 sn) (stV h2 sn) (by go_simp) (by go_simp) rfl HTA.out (by kernel_rfl) (stL_one _ _) HWA.out ?_)
        go_roundw
        case rel => exact ⟨k + 1, by omega, by go_num, NO.out, h2, NS.out⟩
        case measure => simp [intOf]; omega
      · obtain rfl : k = l.length := by omega
        obtain ⟨bo, oo, hA, hb, hcx⟩ := ints_get HO.out.at.2 (k := 0) (x := g) rfl
        rw [Nat.add_zero] at hcx
        have S9 : Hid (∃ h', Sit w0 W0 R B wr h' q.1) := Lib.hid ⟨h1, by rw [HE.out]; have := SK.out; rw [List.take_length] at this; exact this⟩
        have HE2 : Hid (q.2 = g) := Lib.hid (by rw [HE.out])
        have e0 : (0 : Int) < (l.length : Int) + 1 := by omega
        clear hb SK
        subst hA
        go_wp2
        go_ret
        rw [HE2.out]
        exact ⟨rfl, S9.out⟩
end Go.Proofs.Ytogcfndhcphpaaa
namespace Go.Proofs.Ytogcfndhcphpaaa
open Go.RowKit
namespace St
theorem in_runs {s : St} (h : s.may = true) {g : Int} (hg : g ∈ s.runs) : ∃ (k : Nat) (y : Gr), g = (k : Int) + 1 ∧ s.gs[k]? = some y := by
  obtain ⟨_, _, _, _, h5, _⟩ := may_parts h
  unfold allIn at h5
  simp only [Bool.and_eq_true, within_iff] at h5
  have := h5.1.1.1 g hg
  exact ⟨(g - 1).toNat, _, by omega, List.getElem?_eq_getElem (by omega)⟩
theorem queue_runs {s : St} {i : Nat} {x : Pr} (hx : s.ps[i]? = some x) {g : Int} (hg : g ∈ queueOf x) : g ∈ s.runs := List.mem_append_left _ (List.mem_flatMap.2 ⟨x, List.mem_of_getElem? hx, hg⟩)
theorem queue_nil {x : Pr} (h : x.next = 0) (hl : x.ring.list = []) : queueOf x = [] := by unfold queueOf; rw [if_neg (by simp [h]), hl]; rfl
theorem queue_of_nil {x : Pr} (h : queueOf x = []) : x.next = 0 ∧ x.ring.list = [] := by
  unfold queueOf at h
  rw [List.append_eq_nil_iff] at h
  refine ⟨?_, h.2⟩
  by_cases h0 : x.next = 0
  · exact h0
  · have := h.1
    rw [if_pos h0] at this
    cases this
theorem own_next {s : St} {i : Nat} {x : Pr} (h0 : x.next ≠ 0) : s.own i x = ({ s with ps := s.ps.set i { x with next := 0 } }, x.next) := by unfold own; rw [if_pos h0]
theorem own_spec (s : St) (i : Nat) {x : Pr} (hb : x.ring.buf.length = 8) (hm : x.ring.may = true) (h0 : x.next = 0) :
    (∃ g l r, x.ring.list = g :: l ∧ 1 ≤ g ∧ r.Holds l ∧ s.own i x = ({ s with ps := s.ps.set i { x with ring := r } }, g)) ∨ (x.ring.list = [] ∧ s.own i x = (s, 0)) := by
  have hh := Ri.holds_may hb hm
  unfold own
  rw [if_neg (by simp [h0])]
  cases hl : x.ring.list with
  | nil =>
    rw [hl] at hh
    rw [Ri.pop_nil hh]
    exact .inr ⟨rfl, rfl⟩
  | cons g l =>
    rw [hl] at hh
    obtain ⟨r, h1, h2⟩ := Ri.holds_pop hh
    rw [h1]
    exact .inl ⟨g, l, r, rfl, Ri.holds_pos hh g (by simp), h2, rfl⟩
theorem tails_spec {i : Nat} : ∀ {l m : List Int} {s : St} {x : Pr}, s.ps[i]? = some x → x.ring.Holds m → m.length + l.length ≤ 8 → (∀ g ∈ l, 1 ≤ g) → ∃ r : Ri, r.Holds (m ++ l) ∧ s.tails ((i : Int) + 1) l = { s with ps := s.ps.set i { x with ring := r } }
  | [], m, s, x, hx, hh, _, _ => by
    refine ⟨x.ring, by rw [List.append_nil]; exact hh, ?_⟩
    have hil := (List.getElem?_eq_some_iff.1 hx).1
    have : s.ps.set i x = s.ps := by
      apply List.ext_getElem?
      intro a
      by_cases ha : a = i
      · subst ha
        rw [List.getElem?_set_self hil, hx]
      · rw [List.getElem?_set_ne (Ne.symm ha)]
    show s = { s with ps := s.ps.set i x }
    rw [this]
  | g :: l, m, s, x, hx, hh, hl, hp => by
    have hil := (List.getElem?_eq_some_iff.1 hx).1
    simp only [List.length_cons] at hl
    obtain ⟨r, h1, h2⟩ := Ri.holds_push hh (hp g (by simp)) (by omega)
    obtain ⟨r', h3, h4⟩ := tails_spec (l := l) (m := m ++ [g]) (s := { s with ps := s.ps.set i { x with ring := r } }) (x := { x with ring := r }) (List.getElem?_set_self hil) h2 (by rw [List.length_append]; simp; omega) (fun y hy => hp y (by simp [hy]))
    refine ⟨r', by simpa using h3, ?_⟩
    show tails (s.tail ((i : Int) + 1) g) _ l = _
    rw [tail_push hx (hp g (by simp)) (Ri.may_of hh) h1, h4]
    simp only [List.set_set]
inductive PickC (s : St) (i : Nat) (x : Pr) (vc : Int) : St → Int → Prop
  | next (h : x.next ≠ 0) : PickC s i x vc { s with ps := s.ps.set i { x with next := 0 } } x.next
  | ring {g : Int} {l : List Int} {r : Ri} (h : x.next = 0) (hl : x.ring.list = g :: l) (hr : r.Holds l) : PickC s i x vc { s with ps := s.ps.set i { x with ring := r } } g
  | glob {g : Int} {l : List Int} (h : queueOf x = []) (hg : s.glob = g :: l) : PickC s i x vc { s with glob := l } g
  | half {vi : Nat} {v : Pr} {g : Int} {l : List Int} {r1 r2 : Ri} (h : queueOf x = []) (hg : s.glob = []) (hv : vc = (vi : Int) + 1) (hne : vi ≠ i) (hu : (vi : Int) + 1 ≤ s.procs) (hvx : s.ps[vi]? = some v) (hl : v.ring.list.take ((v.ring.list.length + 1) / 2) = g :: l) (hr1 : r1.Holds (v.ring.list.drop ((v.ring.list.length + 1) / 2))) (hr2 : r2.Holds l) :
      PickC s i x vc { s with ps := (s.ps.set vi { v with ring := r1 }).set i { x with ring := r2 } } g
  | vnext {vi : Nat} {v : Pr} (h : queueOf x = []) (hg : s.glob = []) (hv : vc = (vi : Int) + 1) (hne : vi ≠ i) (hu : (vi : Int) + 1 ≤ s.procs) (hvx : s.ps[vi]? = some v) (hl : v.ring.list = []) : PickC s i x vc { s with ps := s.ps.set vi { v with next := 0 } } v.next
  | none (h : queueOf x = []) (hg : s.glob = []) (hv : ¬ (vc ≠ (i : Int) + 1 ∧ 1 ≤ vc ∧ vc ≤ s.procs)) : PickC s i x vc s 0
theorem steal_pick {s : St} {i j vi : Nat} {x v : Pr} (h : Idle s i j x) (hb : ∀ p ∈ s.ps, p.ring.buf.length = 8) (hq : queueOf x = []) (hg : s.glob = []) (hne : vi ≠ i) (hu : (vi : Int) + 1 ≤ s.procs) (hv : s.ps[vi]? = some v) :
    PickC s i x ((vi : Int) + 1) (s.steal ((i : Int) + 1) vi v).1 (s.steal ((i : Int) + 1) vi v).2 := by
  have hh := Ri.holds_may (hb v (List.mem_of_getElem? hv)) (may_ring h.may hv)
  have hhx := Ri.holds_may (hb x (List.mem_of_getElem? h.at_)) (may_ring h.may h.at_)
  rw [(queue_of_nil hq).2] at hhx
  have h8 := (Ri.holds_n hh).2
  have hpos := Ri.holds_pos hh
  obtain ⟨r1, e1, hr1⟩ := Ri.half_holds hh
  unfold steal
  rw [e1]
  simp only
  cases hl : v.ring.list.take ((v.ring.list.length + 1) / 2) with
  | nil =>
    have : v.ring.list = [] := by
      have hz := congrArg List.length hl
      rw [List.length_take] at hz
      simp only [List.length_nil] at hz
      exact List.length_eq_zero_iff.1 (by omega)
    exact .vnext hq hg rfl hne hu hv this
  | cons g l =>
    have hlen := congrArg List.length hl
    rw [List.length_take] at hlen
    simp only [List.length_cons] at hlen
    have hxi : ({ s with ps := s.ps.set vi { v with ring := r1 } } : St).ps[i]? = some x := by show (s.ps.set vi _)[i]? = _; rw [List.getElem?_set_ne hne]; exact h.at_
    obtain ⟨r2, hr2, e2⟩ := tails_spec (l := l) hxi hhx (by simp only [List.length_nil]; omega) (fun y hy => hpos y (List.mem_of_mem_take (by rw [hl]; simp [hy])))
    simp only
    rw [e2]
    exact .half hq hg rfl hne hu hv hl hr1 (by simpa using hr2)
theorem PickC.like {s t : St} {i : Nat} {x : Pr} {vc g : Int} (h : PickC s i x vc t g) (hx : s.ps[i]? = some x) : t.gs = s.gs ∧ t.ms = s.ms ∧ t.ps.length = s.ps.length ∧ (∃ x', t.ps[i]? = some x' ∧ x'.m = x.m) ∧ t.prog = s.prog ∧ t.timers = s.timers ∧ t.glob.length ≤ s.glob.length ∧ t.wts = s.wts := by
  have hil := (List.getElem?_eq_some_iff.1 hx).1
  cases h with
  | next h => exact ⟨rfl, rfl, List.length_set, ⟨_, List.getElem?_set_self hil, rfl⟩, rfl, rfl, Nat.le_refl _, rfl⟩
  | ring h hl hr => exact ⟨rfl, rfl, List.length_set, ⟨_, List.getElem?_set_self hil, rfl⟩, rfl, rfl, Nat.le_refl _, rfl⟩
  | glob h hg => exact ⟨rfl, rfl, rfl, ⟨x, hx, rfl⟩, rfl, rfl, by rw [hg]; simp, rfl⟩
  | half h hg hv hne hu hvx hl hr1 hr2 => exact ⟨rfl, rfl, by simp only [List.length_set], ⟨_, List.getElem?_set_self (by rw [List.length_set]; exact hil), rfl⟩, rfl, rfl, Nat.le_refl _, rfl⟩
  | vnext h hg hv hne hu hvx hl => exact ⟨rfl, rfl, List.length_set, ⟨x, by show (s.ps.set _ _)[i]? = _; rw [List.getElem?_set_ne hne]; exact hx, rfl⟩, rfl, rfl, Nat.le_refl _, rfl⟩
  | none h hg hv => exact ⟨rfl, rfl, rfl, ⟨x, hx, rfl⟩, rfl, rfl, Nat.le_refl _, rfl⟩
theorem PickC.buf {s t : St} {i : Nat} {x : Pr} {vc g : Int} (h : PickC s i x vc t g) (hx : s.ps[i]? = some x) (hb : ∀ p ∈ s.ps, p.ring.buf.length = 8) : ∀ p ∈ t.ps, p.ring.buf.length = 8 := by
  have hbx := hb x (List.mem_of_getElem? hx)
  have set1 : ∀ {k : Nat} {y : Pr}, y.ring.buf.length = 8 → ∀ p ∈ s.ps.set k y, p.ring.buf.length = 8 := fun hy p hp => by
    rcases List.mem_or_eq_of_mem_set hp with hp | rfl
    · exact hb p hp
    · exact hy
  cases h with
  | next h => exact set1 hbx
  | ring h hl hr => exact set1 (Ri.holds_len hr)
  | glob h hg => exact hb
  | half h hg hv hne hu hvx hl hr1 hr2 =>
    intro p hp
    rcases List.mem_or_eq_of_mem_set hp with hp | rfl
    · exact set1 (Ri.holds_len hr1) p hp
    · exact Ri.holds_len hr2
  | @vnext vi v h hg hv hne hu hvx hl => exact set1 (y := { v with next := 0 }) (hb v (List.mem_of_getElem? hvx))
  | none h hg hv => exact hb
theorem PickC.good {s t : St} {i : Nat} {x : Pr} {vc g : Int} (h : PickC s i x vc t g) (hx : s.ps[i]? = some x) (hg : StGood s) : StGood t := by
  obtain ⟨e1, e2, e3, _, e5, e6, e7, e8⟩ := h.like hx
  have hf := hg.few
  have w0 : t.w0 = s.w0 ∧ t.w1 = s.w1 ∧ t.w2 = s.w2 ∧ t.w3 = s.w3 := by
    unfold wts at e8
    simp only [List.cons.injEq, and_true] at e8
    exact e8
  exact ⟨⟨by rw [e5]; exact hf.prog, by rw [e1]; exact hf.gs, by rw [e3]; exact hf.ps, by rw [e2]; exact hf.ms, Nat.le_trans e7 hf.glob, by rw [w0.1, w0.2.1, w0.2.2.1, w0.2.2.2]; exact hf.w, by rw [e6]; exact hf.timers, by rw [e6]; exact hf.tnum⟩, h.buf hx hg.buf, by rw [e6]; exact hg.tim⟩
theorem PickC.runs {s t : St} {i : Nat} {x : Pr} {vc g : Int} (h : PickC s i x vc t g) (hx : s.ps[i]? = some x) : g = 0 ∨ g ∈ s.runs := by
  cases h with
  | next h => exact .inr (queue_runs hx (mem_queue_next h))
  | ring h hl hr => exact .inr (queue_runs hx (mem_queue_ring (by rw [hl]; simp)))
  | glob h hg => exact .inr (List.mem_append_right _ (by rw [hg]; simp))
  | half h hg hv hne hu hvx hl hr1 hr2 => exact .inr (queue_runs hvx (mem_queue_ring (List.mem_of_mem_take (by rw [hl]; simp))))
  | @vnext vi v h hg hv hne hu hvx hl =>
    by_cases h0 : v.next = 0
    · exact .inl h0
    · exact .inr (queue_runs hvx (mem_queue_next h0))
  | none h hg hv => exact .inl rfl
def after (t : St) (p g : Int) : St := if g = 0 then t else t.runG p g
end St
end Go.Proofs.Ytogcfndhcphpaaa
namespace Go.Proofs.Ytogcfndhcphpaaa
open Go.RowKit
theorem stL_run (h : StH) (s : St) (p g : Int) : stL h (s.runG p g) = stL h s := by
  unfold stL St.runG
  simp only [List.length_set]
theorem SitC.fin {w v : World} {W0 R B : Nat} {C : List Value} {h : StH} {s : St} (k : SitC w W0 R B v C h s) (hc : C.length = 16) : (v.setCells R 0 C).heap[R]? = some (.cells C.toArray 32 (0, 0)) ∧ v.there R 0 C.length ∧ (∃ I, StApart w.heap.size (v.setCells R 0 C) I h s) ∧ Ext w (v.setCells R 0 C) := by
  have hu := setCells_upd R C v 0
  have l := k.lo
  obtain ⟨I, a⟩ := k.ap
  exact ⟨setCells_at [.slice none 0 0, .slice none 0 0, .slice none 0 0, .slice none 0 0, .slice none 0 0, .int .i64 0, .int .i64 0, .int .i64 0, .int .i64 0, .slice none 0 0, .slice none 0 0, .slice none 0 0, .slice none 0 0, .slice none 0 0, .int .i64 0, .int .i64 0] C (by rw [hc]; rfl) k.res, there_row k.res (by rw [hc]; exact Nat.le_refl 16),
    ⟨I, (a.far (But.upd (S := fun b => b = R) hu rfl) (fun b hb => by omega)).lower (by omega)⟩, k.ext.upd hu (by omega)⟩
def PickR (w : World) (s : St) (p vc : Int) (e : Ending) (w' : World) : Prop :=
  (s.looks p = false ∧ e = .returned (.tuple #[stV StH.nil St.nil, .int .i64 0, .int .i64 1]) ∧ Ext w w') ∨
  ∃ (i j : Nat) (x : Pr) (t : St) (g : Int) (h' : StH), p = (i : Int) + 1 ∧ St.Idle s i j x ∧ St.PickC s i x vc t g ∧ e = .returned (.tuple #[stV h' (t.after p g), .int .i64 g, .int .i64 0]) ∧ StOk w' h' (t.after p g) ∧ Ext w w'
theorem results_cell_tmp2 {fn : Func} {p u v : Tmp} {ty : TypeId} (h : fn.results = #[.cell p ty, .tmp u, .tmp v]) (tmps : Array Value) (P : Program) (w : World) :
    (results fn tmps).run P w = ((asAddr (tmps.getD p undef)).run P w).andThen fun a w₁ => ((loadVar ty a).run P w₁).andThen fun x w₂ => .ok (.tuple #[x, tmps.getD u undef, tmps.getD v undef]) w₂ := by
  simp only [results, h]
  simp [Sem.run_bind, Result.andThen]
theorem bodyPost_cell_tmp2 {P : Program} {fn : Func} {p u v : Tmp} {ty : TypeId} {a : Act} {w : World} {Q : Ending → World → Prop} (h : fn.results = #[.cell p ty, .tmp u, .tmp v]) (g : Nat) (t : TypeId) (cs : Array Value) (fr : Nat × Nat) (d : TypeDesc)
    (hp : a.tmps.getD p undef = .pointer (some ⟨g, 0, none⟩)) (hg : w.heap[g]? = some (.cells cs t fr)) (hu : P.underlying ty = some d) (hd : (match d with | .struct _ | .array _ _ => true | _ => false) = true) (hi : (P.info? ty).map (·.size) = some cs.size) (x y : Value) (hx : a.tmps.getD u undef = x) (hy : a.tmps.getD v undef = y) (hdf : a.defers = [])
    (hQ : Q (.returned (.tuple #[.agg cs, x, y])) w) : bodyPost P fn Q .ret a w := by
  subst hx hy
  refine bodyPost_ret (v := .tuple #[.agg cs, a.tmps.getD u undef, a.tmps.getD v undef]) ?_ hdf hQ
  rw [results_cell_tmp2 h, hp]
  simp only [asAddr, Sem.run_pure, Result.andThen_ok, run_loadVar_row w g t ty cs fr d hg hu hd hi]
theorem glob_ok {B : Nat} {w : World} {I : Nat → Nat × Nat} {h : StH} {s : St} {g : Int} {l : List Int} (ha : StApart B w I h s) (hg : s.glob = g :: l) (hb : ∀ p ∈ s.ps, p.ring.buf.length = 8) : StOk w { h with la := advK h.la 1 h.lc, lc := h.lc - 1 } { s with glob := l } := by
  have k := ha.ok hb
  have hgl := ha.glob.1.at.2.behind (k := 1) (by rw [hg]; simp) ha.glob.1.capY.2
  have e : s.glob.drop 1 = l := by rw [hg]; rfl
  have e2 : s.glob.length - 1 = l.length := by rw [hg]; rfl
  rw [e, e2] at hgl
  exact ⟨k.prog, k.gs, k.ps, k.ms, hgl, k.w0, k.w1, k.w2, k.w3, k.timers, k.buf⟩
set_option maxRecDepth 100000 in
set_option maxHeartbeats 32000000 in
theorem fPick_any (h : StH) (s : St) (p vc : Int) (w : World) (hk : StOk w h s) (hg : StGood s) (hgl : s.glob.length ≤ 80) : Calls Try.prog 36 #[stV h s, .int .i64 p, .int .i64 vc] w (PickR w s p vc) := by
  have hf := hg.few
  have HG := Lib.hid hg
  have HGL := Lib.hid hgl
  clear hg hgl
  have HF := Lib.hid hf
  have HK := Lib.hid hk
  obtain ⟨W0, hW0⟩ : ∃ W0, w.heap.size = W0 := ⟨_, rfl⟩
  obtain ⟨R, hR⟩ : ∃ R, W0 + 1 = R := ⟨_, rfl⟩
  obtain ⟨w2, hw2⟩ : ∃ w2, (w.alloc (.cells #[.slice h.pa s.prog.length h.pc, .slice h.ga s.gs.length h.gc, .slice h.qa s.ps.length h.qc, .slice h.ma s.ms.length h.mc, .slice h.la s.glob.length h.lc, .int .i64 s.c0, .int .i64 s.c1, .int .i64 s.c2, .int .i64 s.c3, .slice h.a0 s.w0.length h.k0, .slice h.a1 s.w1.length h.k1, .slice h.a2 s.w2.length h.k2, .slice h.a3 s.w3.length h.k3, .slice h.ta s.timers.length h.tc, .int .i64 s.clock, .int .i64 s.procs] 32)).alloc (.cells #[.slice none 0 0, .slice none 0 0, .slice none 0 0, .slice none 0 0, .slice none 0 0, .int .i64 0, .int .i64 0, .int .i64 0, .int .i64 0, .slice none 0 0, .slice none 0 0, .slice none 0 0, .slice none 0 0, .slice none 0 0, .int .i64 0, .int .i64 0] 32) = w2 := ⟨_, rfl⟩
  have HX1 : Hid (Ext w w2) := Lib.hid (by rw [← hw2]; exact ((Ext.refl w).alloc _).alloc _)
  have HB1 : Hid (w2.heap[W0]? = some (.cells (stC h s) 32 (0, 0))) := Lib.hid (by rw [← hw2, ← hW0]; exact blk_alloc (blk_new w _) _)
  have HR1 : Hid (w2.heap[R]? = some (.cells #[.slice none 0 0, .slice none 0 0, .slice none 0 0, .slice none 0 0, .slice none 0 0, .int .i64 0, .int .i64 0, .int .i64 0, .int .i64 0, .slice none 0 0, .slice none 0 0, .slice none 0 0, .slice none 0 0, .slice none 0 0, .int .i64 0, .int .i64 0] 32 (0, 0))) := Lib.hid (by
    have := blk_new (w.alloc (.cells #[.slice h.pa s.prog.length h.pc, .slice h.ga s.gs.length h.gc, .slice h.qa s.ps.length h.qc, .slice h.ma s.ms.length h.mc, .slice h.la s.glob.length h.lc, .int .i64 s.c0, .int .i64 s.c1, .int .i64 s.c2, .int .i64 s.c3, .slice h.a0 s.w0.length h.k0, .slice h.a1 s.w1.length h.k1, .slice h.a2 s.w2.length h.k2, .slice h.a3 s.w3.length h.k3, .slice h.ta s.timers.length h.tc, .int .i64 s.clock, .int .i64 s.procs] 32)) (.cells #[.slice none 0 0, .slice none 0 0, .slice none 0 0, .slice none 0 0, .slice none 0 0, .int .i64 0, .int .i64 0, .int .i64 0, .int .i64 0, .slice none 0 0, .slice none 0 0, .slice none 0 0, .slice none 0 0, .slice none 0 0, .int .i64 0, .int .i64 0] 32)
    rw [hw2, World.size_alloc, hW0, hR] at this
    exact this)
  have HRR := Lib.hid hR
  have HW0 := Lib.hid hW0
  have HW2 := Lib.hid hw2
  have HK1 := Lib.hid (hk.ext HX1.out)
  clear hk hf hw2 hW0 hR
  obtain ⟨PQ, hPQ⟩ : ∃ PQ : Ending → World → Prop, PQ = PickR w s p vc := ⟨_, rfl⟩
  rw [← hPQ]
  have HPQ := Lib.hid hPQ
  clear hPQ
  unfold stV
  go_enter Try.func36, Try.ntmps36
  go_upto_region 1 with fail
  rw [HW2.out, HW0.out, HRR.out]
  generalize Value.agg #[.slice h.pa s.prog.length h.pc, .slice h.ga s.gs.length h.gc, .slice h.qa s.ps.length h.qc, .slice h.ma s.ms.length h.mc, .slice h.la s.glob.length h.lc, .int .i64 s.c0, .int .i64 s.c1, .int .i64 s.c2, .int .i64 s.c3, .slice h.a0 s.w0.length h.k0, .slice h.a1 s.w1.length h.k1, .slice h.a2 s.w2.length h.k2, .slice h.a3 s.w3.length h.k3, .slice h.ta s.timers.length h.tc, .int .i64 s.clock, .int .i64 s.procs] = sv0
  go_wp2_with (refine wpList_load_rowW (by rfl) 32 _ rfl W0 (by go_simp) (stL h s) (stV h s) rfl _ (range_row HB1.out) Try.underlying32 rfl (by kernel_rfl) ?_)
  refine (flooks_any h s p _ rfl w2 HK1.out HF.out).mono ?_
  rintro e wa ⟨rfl, hxa⟩
  have HXA := Lib.hid (HX1.out.trans hxa)
  have HBA := Lib.hid (hxa.blk HB1.out)
  have HRA := Lib.hid (hxa.blk HR1.out)
  clear hxa
  cases bl : s.looks p with
  | false =>
    have HN := Lib.hid bl
    obtain ⟨wf, hwf⟩ : ∃ wf, wa.setCells R 0 (stL StH.nil St.nil) = wf := ⟨_, rfl⟩
    have hfn := fin_nil HRA.out HXA.out (show w.heap.size ≤ R by have := HRR.out; have := HW0.out; omega)
    rw [hwf] at hfn
    have HFN := Lib.hid hfn
    have HWF := Lib.hid hwf
    clear hfn hwf bl
    go_wp2_with (refine wpList_store_row rfl 32 _ _ rfl R (stL StH.nil St.nil) (stV StH.nil St.nil) rfl rfl rfl HFN.out.2.1 (by kernel_rfl) (stL_one _ _) HWF.out ?_)
    refine bodyPost_cell_tmp2 rfl R _ _ _ _ rfl HFN.out.1 Try.underlying32 rfl (by kernel_rfl) (.int .i64 0) (.int .i64 1) rfl rfl rfl ?_
    rw [HPQ.out]
    exact .inl ⟨HN.out, rfl, HFN.out.2.2⟩
  | true =>
  obtain ⟨i, j, x, rfl, hi⟩ := St.looks_iff.1 bl
  have HI := Lib.hid hi
  clear hi bl
  go_wp2_with (refine wpList_load_rowW (by rfl) 32 _ rfl W0 (by go_simp) (stL h s) (stV h s) rfl _ (range_row HBA.out) Try.underlying32 rfl (by kernel_rfl) ?_)
  refine (sCopy_any h s wa (HK.out.ext HXA.out) HF.out).mono ?_
  rintro e w3 ⟨h1, L, rfl, ho, hL, hx⟩
  obtain ⟨w4, hw4⟩ : ∃ w4, w3.setCells W0 0 (stL h1 s) = w4 := ⟨_, rfl⟩
  have hst := Sit.start (w := w) rfl HXA.out HBA.out HRA.out hx (ho.apart hL) (by have := HRR.out; omega) (by have := HW0.out; omega) (by have := HW0.out; have := HRR.out; omega)
  rw [hw4] at hst
  have HTH := Lib.hid hst.1
  have S4 := Lib.hid hst.2
  have HW4 := Lib.hid hw4
  have HB8 := Lib.hid (HG.out.buf x (List.mem_of_getElem? HI.out.at_))
  have HRM := Lib.hid (St.may_ring HI.out.may HI.out.at_)
  clear ho hL hx hst hw4
  go_upto_region 4 with (refine wpList_store_row rfl 32 _ _ rfl W0 (stL h1 s) (stV h1 s) (by go_simp) (by go_simp) rfl HTH.out (by kernel_rfl) (stL_one _ _) HW4.out ?_)
  go_wp2_with fail
  refine (fown_any W0 R wa.heap.size i h1 s x _ w w4 S4.out HI.out.at_ HB8.out HF.out rfl).mono ?_
  rintro e w5 ⟨rfl, hs5⟩
  by_cases h0 : x.next = 0
  case neg =>
    rw [St.own_next h0] at hs5 ⊢
    obtain ⟨g, hg⟩ : ∃ g, x.next = g := ⟨_, rfl⟩
    obtain ⟨t, ht⟩ : ∃ t : St, { s with ps := s.ps.set i { x with next := 0 } } = t := ⟨_, rfl⟩
    have HPC : Hid (St.PickC s i x vc t g) := Lib.hid (by rw [← ht, ← hg]; exact .next h0)
    simp only [ht, hg] at hs5 ⊢
    have HG0 : Hid (g ≠ 0) := Lib.hid (by rw [← hg]; exact h0)
    obtain ⟨C, hC⟩ : ∃ C, stL h1 t = C := ⟨_, rfl⟩
    have HCC := Lib.hid hC
    have S5 : Hid (SitC w W0 R wa.heap.size w5 C h1 t) := Lib.hid (by rw [← hC]; exact SitC.of hs5)
    clear hg ht hs5 hC h0
    have HL5 : Hid (StGood t ∧ t.gs = s.gs ∧ t.ms = s.ms ∧ ∃ x', t.ps[i]? = some x' ∧ x'.m = x.m) := Lib.hid (by
      have hl := HPC.out.like HI.out.at_
      exact ⟨HPC.out.good HI.out.at_ HG.out, hl.1, hl.2.1, hl.2.2.2.1⟩)
    obtain ⟨k, y, hk, hy⟩ := St.in_runs HI.out.may ((HPC.out.runs HI.out.at_).resolve_left HG0.out)
    have HPC := Lib.hid HPC.out
    subst hk
    have HY := Lib.hid hy
    have HSQ : Hid (0 ≤ y.seq ∧ y.seq < 4611686018427387904) := Lib.hid (by have := St.may_seq HI.out.may hy; omega)
    obtain ⟨x', hx', hm'⟩ := HL5.out.2.2.2
    have HX' := Lib.hid hx'
    have HM' : Hid (x'.m = (j : Int) + 1) := Lib.hid (hm'.trans HI.out.m)
    have b0 : ((k : Int) + 1 == 0) = false := by simp; omega
    have b1 : ((k : Int) + 1 != 0) = true := by simp; omega
    clear hy hx' hm'
    go_upto_region 10 with fail
    clear b0 b1
    go_wp2_with fail
    refine (frun_any W0 R wa.heap.size i j k C h1 t x' y ((i : Int) + 1, 0) w w5 S5.out (by rw [← HCC.out]; exact ⟨rfl, rfl, rfl⟩) HX'.out HM'.out (by first | (rw [HL5.out.2.2.1]; exact HI.out.hm) | exact HI.out.hm) (by first | (rw [HL5.out.2.1]; exact HY.out) | exact HY.out) HSQ.out HL5.out.1.few).mono ?_
    rintro e w6 ⟨rfl, hs6⟩
    have S6 := Lib.hid hs6
    clear hs6
    have HCL : Hid (C.length = 16) := Lib.hid (by rw [← HCC.out]; rfl)
    have HSZ : Hid ((Try.prog.info? 32).map (·.size) = some C.length) := Lib.hid (by rw [HCL.out]; kernel_rfl)
    have HC1 : Hid (∀ u ∈ C, u.oneCell' = true) := Lib.hid (by rw [← HCC.out]; exact stL_one _ _)
    obtain ⟨cv, hcv⟩ : ∃ cv, Value.agg C.toArray = cv := ⟨_, rfl⟩
    have HCV := Lib.hid hcv
    obtain ⟨wf, hwf⟩ : ∃ wf, w6.setCells R 0 C = wf := ⟨_, rfl⟩
    have hfi := S6.out.fin HCL.out
    rw [hwf] at hfi
    have HFI := Lib.hid hfi
    have HWF := Lib.hid hwf
    have HAF : Hid ((t).after ((i : Int) + 1) ((k : Int) + 1) = (t).runG ((i : Int) + 1) ((k : Int) + 1)) := Lib.hid (by unfold St.after; rw [if_neg (by omega)])
    clear hcv hwf hfi
    go_wp2_with (first | (refine wpList_load_rowM (by rfl) 32 _ rfl W0 0 (by go_simp) C cv HCV.out.symm _ (range_row S6.out.box) Try.underlying32 rfl HSZ.out ?_) | (refine wpList_store_rowM rfl 32 _ _ rfl R 0 C cv (by go_simp) (by go_simp) HCV.out.symm HFI.out.2.1 HSZ.out HC1.out HWF.out ?_))
    refine bodyPost_cell_tmp2 rfl R _ _ _ _ rfl HFI.out.1 Try.underlying32 rfl (by rw [List.size_toArray]; exact HSZ.out) (.int .i64 ((k : Int) + 1)) (.int .i64 0) rfl rfl rfl ?_
    rw [HPQ.out]
    refine .inr ⟨i, j, x, t, ((k : Int) + 1), h1, rfl, HI.out, HPC.out, ?_, ?_, HFI.out.2.2.2⟩
    · rw [HAF.out, ← HCC.out, ← stL_run h1 (t) ((i : Int) + 1) ((k : Int) + 1)]
      rfl
    · obtain ⟨I, hI⟩ := HFI.out.2.2.1
      rw [HAF.out]
      exact hI.ok (HL5.out.1.buf)
  have HN0 := Lib.hid h0
  rcases St.own_spec s i HB8.out HRM.out h0 with ⟨g, l, r, hl, hg1, hr, e⟩ | ⟨hl, e⟩
  · rw [e] at hs5 ⊢
    obtain ⟨t, ht⟩ : ∃ t : St, { s with ps := s.ps.set i { x with ring := r } } = t := ⟨_, rfl⟩
    have HPC : Hid (St.PickC s i x vc t g) := Lib.hid (by rw [← ht]; exact .ring h0 hl hr)
    simp only [ht] at hs5 ⊢
    have HG0 : Hid (g ≠ 0) := Lib.hid (by omega)
    obtain ⟨C, hC⟩ : ∃ C, stL h1 t = C := ⟨_, rfl⟩
    have HCC := Lib.hid hC
    have S5 : Hid (SitC w W0 R wa.heap.size w5 C h1 t) := Lib.hid (by rw [← hC]; exact SitC.of hs5)
    clear hl hg1 hr e ht hs5 hC h0
    have HL5 : Hid (StGood t ∧ t.gs = s.gs ∧ t.ms = s.ms ∧ ∃ x', t.ps[i]? = some x' ∧ x'.m = x.m) := Lib.hid (by
      have hl := HPC.out.like HI.out.at_
      exact ⟨HPC.out.good HI.out.at_ HG.out, hl.1, hl.2.1, hl.2.2.2.1⟩)
    obtain ⟨k, y, hk, hy⟩ := St.in_runs HI.out.may ((HPC.out.runs HI.out.at_).resolve_left HG0.out)
    have HPC := Lib.hid HPC.out
    subst hk
    have HY := Lib.hid hy
    have HSQ : Hid (0 ≤ y.seq ∧ y.seq < 4611686018427387904) := Lib.hid (by have := St.may_seq HI.out.may hy; omega)
    obtain ⟨x', hx', hm'⟩ := HL5.out.2.2.2
    have HX' := Lib.hid hx'
    have HM' : Hid (x'.m = (j : Int) + 1) := Lib.hid (hm'.trans HI.out.m)
    have b0 : ((k : Int) + 1 == 0) = false := by simp; omega
    have b1 : ((k : Int) + 1 != 0) = true := by simp; omega
    clear hy hx' hm'
    go_upto_region 10 with fail
    clear b0 b1
    go_wp2_with fail
    refine (frun_any W0 R wa.heap.size i j k C h1 t x' y ((i : Int) + 1, 0) w w5 S5.out (by rw [← HCC.out]; exact ⟨rfl, rfl, rfl⟩) HX'.out HM'.out (by first | (rw [HL5.out.2.2.1]; exact HI.out.hm) | exact HI.out.hm) (by first | (rw [HL5.out.2.1]; exact HY.out) | exact HY.out) HSQ.out HL5.out.1.few).mono ?_
    rintro e w6 ⟨rfl, hs6⟩
    have S6 := Lib.hid hs6
    clear hs6
    have HCL : Hid (C.length = 16) := Lib.hid (by rw [← HCC.out]; rfl)
    have HSZ : Hid ((Try.prog.info? 32).map (·.size) = some C.length) := Lib.hid (by rw [HCL.out]; kernel_rfl)
    have HC1 : Hid (∀ u ∈ C, u.oneCell' = true) := Lib.hid (by rw [← HCC.out]; exact stL_one _ _)
    obtain ⟨cv, hcv⟩ : ∃ cv, Value.agg C.toArray = cv := ⟨_, rfl⟩
    have HCV := Lib.hid hcv
    obtain ⟨wf, hwf⟩ : ∃ wf, w6.setCells R 0 C = wf := ⟨_, rfl⟩
    have hfi := S6.out.fin HCL.out
    rw [hwf] at hfi
    have HFI := Lib.hid hfi
    have HWF := Lib.hid hwf
    have HAF : Hid ((t).after ((i : Int) + 1) ((k : Int) + 1) = (t).runG ((i : Int) + 1) ((k : Int) + 1)) := Lib.hid (by unfold St.after; rw [if_neg (by omega)])
    clear hcv hwf hfi
    go_wp2_with (first | (refine wpList_load_rowM (by rfl) 32 _ rfl W0 0 (by go_simp) C cv HCV.out.symm _ (range_row S6.out.box) Try.underlying32 rfl HSZ.out ?_) | (refine wpList_store_rowM rfl 32 _ _ rfl R 0 C cv (by go_simp) (by go_simp) HCV.out.symm HFI.out.2.1 HSZ.out HC1.out HWF.out ?_))
    refine bodyPost_cell_tmp2 rfl R _ _ _ _ rfl HFI.out.1 Try.underlying32 rfl (by rw [List.size_toArray]; exact HSZ.out) (.int .i64 ((k : Int) + 1)) (.int .i64 0) rfl rfl rfl ?_
    rw [HPQ.out]
    refine .inr ⟨i, j, x, t, ((k : Int) + 1), h1, rfl, HI.out, HPC.out, ?_, ?_, HFI.out.2.2.2⟩
    · rw [HAF.out, ← HCC.out, ← stL_run h1 (t) ((i : Int) + 1) ((k : Int) + 1)]
      rfl
    · obtain ⟨I, hI⟩ := HFI.out.2.2.1
      rw [HAF.out]
      exact hI.ok (HL5.out.1.buf)
  rw [e] at hs5 ⊢
  have SS5 : Hid (Sit w W0 R wa.heap.size w5 h1 s) := Lib.hid hs5
  have HQ0 := Lib.hid (St.queue_nil h0 hl)
  clear e hs5 hl h0
  simp only
  cases hgl : s.glob with
  | cons g l =>
    have HGC := Lib.hid hgl
    go_upto_region 6 with fail
    go_wp2_with fail
    refine (fglobal_cons W0 R wa.heap.size h1 s g l w w5 SS5.out hgl HF.out).mono ?_
    rintro e w7 ⟨rfl, hs7⟩
    obtain ⟨t, ht⟩ : ∃ t : St, { s with glob := l } = t := ⟨_, rfl⟩
    have HPC : Hid (St.PickC s i x vc { s with glob := l } g) := Lib.hid (.glob HQ0.out hgl)
    have HG0 : Hid (g ≠ 0) := Lib.hid (fun e => by
      obtain ⟨k, y, hk, _⟩ := St.in_runs HI.out.may (show g ∈ s.runs from List.mem_append_right _ (by rw [hgl]; simp))
      omega)
    obtain ⟨C, hC⟩ : ∃ C, stL { h1 with la := advK h1.la 1 h1.lc, lc := h1.lc - 1 } { s with glob := l } = C := ⟨_, rfl⟩
    have HCC := Lib.hid hC
    have S5 : Hid (SitC w W0 R wa.heap.size w7 C h1 s) := Lib.hid (by rw [← hC]; exact hs7)
    clear ht hs7 hC hgl
    have HL5 : Hid (StGood s ∧ s.gs = s.gs ∧ s.ms = s.ms ∧ ∃ x', s.ps[i]? = some x' ∧ x'.m = x.m) := Lib.hid (by
      exact ⟨HG.out, rfl, rfl, x, HI.out.at_, rfl⟩)
    obtain ⟨k, y, hk, hy⟩ := St.in_runs HI.out.may ((HPC.out.runs HI.out.at_).resolve_left HG0.out)
    have HPC := Lib.hid HPC.out
    subst hk
    have HY := Lib.hid hy
    have HSQ : Hid (0 ≤ y.seq ∧ y.seq < 4611686018427387904) := Lib.hid (by have := St.may_seq HI.out.may hy; omega)
    obtain ⟨x', hx', hm'⟩ := HL5.out.2.2.2
    have HX' := Lib.hid hx'
    have HM' : Hid (x'.m = (j : Int) + 1) := Lib.hid (hm'.trans HI.out.m)
    have b0 : ((k : Int) + 1 == 0) = false := by simp; omega
    have b1 : ((k : Int) + 1 != 0) = true := by simp; omega
    clear hy hx' hm'
    go_upto_region 10 with fail
    clear b0 b1
    go_wp2_with fail
    refine (frun_any W0 R wa.heap.size i j k C h1 s x' y ((i : Int) + 1, 0) w w7 S5.out (by rw [← HCC.out]; exact ⟨rfl, rfl, rfl⟩) HX'.out HM'.out (by first | (rw [HL5.out.2.2.1]; exact HI.out.hm) | exact HI.out.hm) (by first | (rw [HL5.out.2.1]; exact HY.out) | exact HY.out) HSQ.out HL5.out.1.few).mono ?_
    rintro e w6 ⟨rfl, hs6⟩
    have S6 := Lib.hid hs6
    clear hs6
    have HCL : Hid (C.length = 16) := Lib.hid (by rw [← HCC.out]; rfl)
    have HSZ : Hid ((Try.prog.info? 32).map (·.size) = some C.length) := Lib.hid (by rw [HCL.out]; kernel_rfl)
    have HC1 : Hid (∀ u ∈ C, u.oneCell' = true) := Lib.hid (by rw [← HCC.out]; exact stL_one _ _)
    obtain ⟨cv, hcv⟩ : ∃ cv, Value.agg C.toArray = cv := ⟨_, rfl⟩
    have HCV := Lib.hid hcv
    obtain ⟨wf, hwf⟩ : ∃ wf, w6.setCells R 0 C = wf := ⟨_, rfl⟩
    have hfi := S6.out.fin HCL.out
    rw [hwf] at hfi
    have HFI := Lib.hid hfi
    have HWF := Lib.hid hwf
    have HAF : Hid (({ s with glob := l }).after ((i : Int) + 1) ((k : Int) + 1) = ({ s with glob := l }).runG ((i : Int) + 1) ((k : Int) + 1)) := Lib.hid (by unfold St.after; rw [if_neg (by omega)])
    clear hcv hwf hfi
    go_wp2_with (first | (refine wpList_load_rowM (by rfl) 32 _ rfl W0 0 (by go_simp) C cv HCV.out.symm _ (range_row S6.out.box) Try.underlying32 rfl HSZ.out ?_) | (refine wpList_store_rowM rfl 32 _ _ rfl R 0 C cv (by go_simp) (by go_simp) HCV.out.symm HFI.out.2.1 HSZ.out HC1.out HWF.out ?_))
    refine bodyPost_cell_tmp2 rfl R _ _ _ _ rfl HFI.out.1 Try.underlying32 rfl (by rw [List.size_toArray]; exact HSZ.out) (.int .i64 ((k : Int) + 1)) (.int .i64 0) rfl rfl rfl ?_
    rw [HPQ.out]
    refine .inr ⟨i, j, x, { s with glob := l }, ((k : Int) + 1), { h1 with la := advK h1.la 1 h1.lc, lc := h1.lc - 1 }, rfl, HI.out, HPC.out, ?_, ?_, HFI.out.2.2.2⟩
    · rw [HAF.out, ← HCC.out, ← stL_run { h1 with la := advK h1.la 1 h1.lc, lc := h1.lc - 1 } ({ s with glob := l }) ((i : Int) + 1) ((k : Int) + 1)]
      rfl
    · obtain ⟨I, hI⟩ := HFI.out.2.2.1
      rw [HAF.out]
      exact glob_ok hI HGC.out HG.out.buf
  | nil =>
    go_upto_region 6 with fail
    go_wp2_with fail
    refine (fglobal_nil W0 R wa.heap.size h1 s w w5 SS5.out hgl).mono ?_
    rintro e w7 ⟨rfl, rfl⟩
    have HGN := Lib.hid hgl
    have HBT := Lib.hid HG.out.buf
    clear hgl
    obtain ⟨wz, hwz⟩ : ∃ wz, w7 = wz := ⟨_, rfl⟩
    subst hwz
    by_cases hvp : vc = (i : Int) + 1
    · have hv' : (vc != (i : Int) + 1) = false := by simpa using hvp
      have HPC : Hid (St.PickC s i x vc s 0) := Lib.hid (.none HQ0.out HGN.out (fun h => h.1 hvp))
      obtain ⟨C, hC⟩ : ∃ C, stL h1 s = C := ⟨_, rfl⟩
      have HCC := Lib.hid hC
      have S5 : Hid (SitC w W0 R wa.heap.size w7 C h1 s) := Lib.hid (by rw [← hC]; exact SitC.of SS5.out)
      clear hC hvp
      go_upto_region 11 with fail
      clear hv'
      have HCL : Hid (C.length = 16) := Lib.hid (by rw [← HCC.out]; rfl)
      have HSZ : Hid ((Try.prog.info? 32).map (·.size) = some C.length) := Lib.hid (by rw [HCL.out]; kernel_rfl)
      have HC1 : Hid (∀ u ∈ C, u.oneCell' = true) := Lib.hid (by rw [← HCC.out]; exact stL_one _ _)
      obtain ⟨cv, hcv⟩ : ∃ cv, Value.agg C.toArray = cv := ⟨_, rfl⟩
      have HCV := Lib.hid hcv
      obtain ⟨wf, hwf⟩ : ∃ wf, w7.setCells R 0 C = wf := ⟨_, rfl⟩
      have hfi := S5.out.fin HCL.out
      rw [hwf] at hfi
      have HFI := Lib.hid hfi
      have HWF := Lib.hid hwf
      have HAF : Hid ((s).after ((i : Int) + 1) 0 = s) := Lib.hid (by unfold St.after; rw [if_pos rfl])
      clear hcv hwf hfi
      go_wp2_with (first | (refine wpList_load_rowM (by rfl) 32 _ rfl W0 0 (by go_simp) C cv HCV.out.symm _ (range_row S5.out.box) Try.underlying32 rfl HSZ.out ?_) | (refine wpList_store_rowM rfl 32 _ _ rfl R 0 C cv (by go_simp) (by go_simp) HCV.out.symm HFI.out.2.1 HSZ.out HC1.out HWF.out ?_))
      refine bodyPost_cell_tmp2 rfl R _ _ _ _ rfl HFI.out.1 Try.underlying32 rfl (by rw [List.size_toArray]; exact HSZ.out) (.int .i64 0) (.int .i64 0) rfl rfl rfl ?_
      rw [HPQ.out]
      refine .inr ⟨i, j, x, s, 0, h1, rfl, HI.out, HPC.out, ?_, ?_, HFI.out.2.2.2⟩
      · rw [HAF.out, ← HCC.out]
        rfl
      · obtain ⟨I, hI⟩ := HFI.out.2.2.1
        rw [HAF.out]
        exact hI.ok (HBT.out)
    · have hv' : (vc != (i : Int) + 1) = true := by simpa using hvp
      have HVP := Lib.hid hvp
      clear hvp
      go_wp2_with (refine wpList_load_rowW (by rfl) 32 _ rfl W0 (by go_simp) (stL h1 s) (stV h1 s) rfl _ (range_row SS5.out.box) Try.underlying32 rfl (by kernel_rfl) ?_)
      refine (finuse_any h1 s vc _ rfl w7 (by obtain ⟨I, hI⟩ := SS5.out.ap; exact hI.ok HBT.out)).mono ?_
      rintro e w8 ⟨rfl, hx8⟩
      have S8 := Lib.hid (SS5.out.more hx8)
      clear hx8
      cases bu : decide (1 ≤ vc ∧ vc ≤ s.procs) with
      | false =>
        have HPC : Hid (St.PickC s i x vc s 0) := Lib.hid (.none HQ0.out HGN.out (fun h => of_decide_eq_false bu h.2))
        obtain ⟨C, hC⟩ : ∃ C, stL h1 s = C := ⟨_, rfl⟩
        have HCC := Lib.hid hC
        have S5 : Hid (SitC w W0 R wa.heap.size w8 C h1 s) := Lib.hid (by rw [← hC]; exact SitC.of S8.out)
        clear hC bu
        go_upto_region 11 with fail
        clear hv'
        have HCL : Hid (C.length = 16) := Lib.hid (by rw [← HCC.out]; rfl)
        have HSZ : Hid ((Try.prog.info? 32).map (·.size) = some C.length) := Lib.hid (by rw [HCL.out]; kernel_rfl)
        have HC1 : Hid (∀ u ∈ C, u.oneCell' = true) := Lib.hid (by rw [← HCC.out]; exact stL_one _ _)
        obtain ⟨cv, hcv⟩ : ∃ cv, Value.agg C.toArray = cv := ⟨_, rfl⟩
        have HCV := Lib.hid hcv
        obtain ⟨wf, hwf⟩ : ∃ wf, w8.setCells R 0 C = wf := ⟨_, rfl⟩
        have hfi := S5.out.fin HCL.out
        rw [hwf] at hfi
        have HFI := Lib.hid hfi
        have HWF := Lib.hid hwf
        have HAF : Hid ((s).after ((i : Int) + 1) 0 = s) := Lib.hid (by unfold St.after; rw [if_pos rfl])
        clear hcv hwf hfi
        go_wp2_with (first | (refine wpList_load_rowM (by rfl) 32 _ rfl W0 0 (by go_simp) C cv HCV.out.symm _ (range_row S5.out.box) Try.underlying32 rfl HSZ.out ?_) | (refine wpList_store_rowM rfl 32 _ _ rfl R 0 C cv (by go_simp) (by go_simp) HCV.out.symm HFI.out.2.1 HSZ.out HC1.out HWF.out ?_))
        refine bodyPost_cell_tmp2 rfl R _ _ _ _ rfl HFI.out.1 Try.underlying32 rfl (by rw [List.size_toArray]; exact HSZ.out) (.int .i64 0) (.int .i64 0) rfl rfl rfl ?_
        rw [HPQ.out]
        refine .inr ⟨i, j, x, s, 0, h1, rfl, HI.out, HPC.out, ?_, ?_, HFI.out.2.2.2⟩
        · rw [HAF.out, ← HCC.out]
          rfl
        · obtain ⟨I, hI⟩ := HFI.out.2.2.1
          rw [HAF.out]
          exact hI.ok (HBT.out)
      | true =>
        have hvu := of_decide_eq_true bu
        clear bu
        have hps := St.may_procs HI.out.may
        obtain ⟨vi, rfl⟩ : ∃ vi : Nat, vc = (vi : Int) + 1 := ⟨(vc - 1).toNat, by omega⟩
        obtain ⟨v, hv⟩ : ∃ v, s.ps[vi]? = some v := ⟨_, List.getElem?_eq_getElem (by omega)⟩
        have HV := Lib.hid hv
        have HVU := Lib.hid hvu.2
        have HVI : Hid (vi ≠ i) := Lib.hid (fun e => HVP.out (by rw [e]))
        have HVM := Lib.hid (St.may_ring HI.out.may hv)
        clear hps hv hvu
        go_upto_region 8 with fail
        clear hv'
        go_wp2_with fail
        obtain ⟨⟨t, g⟩, hz⟩ : ∃ z, s.steal ((i : Int) + 1) vi v = z := ⟨_, rfl⟩
        have HPC : Hid (St.PickC s i x ((vi : Int) + 1) t g) := Lib.hid (by have := St.steal_pick HI.out HBT.out HQ0.out HGN.out HVI.out HVU.out HV.out; rw [hz] at this; exact this)
        refine (fsteal_any W0 R wa.heap.size vi ((i : Int) + 1) h1 s v (t, g) w w8 S8.out HV.out HG.out HGL.out HVM.out hz).mono ?_
        rintro e w9 ⟨rfl, h2, hs9⟩
        simp only at hs9 ⊢
        obtain ⟨C, hC⟩ : ∃ C, stL h2 t = C := ⟨_, rfl⟩
        have HCC := Lib.hid hC
        have S5 : Hid (SitC w W0 R wa.heap.size w9 C h2 t) := Lib.hid (by rw [← hC]; exact SitC.of hs9)
        have HBT2 := Lib.hid (HPC.out.buf HI.out.at_ HG.out.buf)
        clear hz hs9 hC
        by_cases hg0 : g = 0
        · subst hg0
          have HBT := Lib.hid HBT2.out
          go_upto_region 11 with fail
          have HCL : Hid (C.length = 16) := Lib.hid (by rw [← HCC.out]; rfl)
          have HSZ : Hid ((Try.prog.info? 32).map (·.size) = some C.length) := Lib.hid (by rw [HCL.out]; kernel_rfl)
          have HC1 : Hid (∀ u ∈ C, u.oneCell' = true) := Lib.hid (by rw [← HCC.out]; exact stL_one _ _)
          obtain ⟨cv, hcv⟩ : ∃ cv, Value.agg C.toArray = cv := ⟨_, rfl⟩
          have HCV := Lib.hid hcv
          obtain ⟨wf, hwf⟩ : ∃ wf, w9.setCells R 0 C = wf := ⟨_, rfl⟩
          have hfi := S5.out.fin HCL.out
          rw [hwf] at hfi
          have HFI := Lib.hid hfi
          have HWF := Lib.hid hwf
          have HAF : Hid ((t).after ((i : Int) + 1) 0 = t) := Lib.hid (by unfold St.after; rw [if_pos rfl])
          clear hcv hwf hfi
          go_wp2_with (first | (refine wpList_load_rowM (by rfl) 32 _ rfl W0 0 (by go_simp) C cv HCV.out.symm _ (range_row S5.out.box) Try.underlying32 rfl HSZ.out ?_) | (refine wpList_store_rowM rfl 32 _ _ rfl R 0 C cv (by go_simp) (by go_simp) HCV.out.symm HFI.out.2.1 HSZ.out HC1.out HWF.out ?_))
          refine bodyPost_cell_tmp2 rfl R _ _ _ _ rfl HFI.out.1 Try.underlying32 rfl (by rw [List.size_toArray]; exact HSZ.out) (.int .i64 0) (.int .i64 0) rfl rfl rfl ?_
          rw [HPQ.out]
          refine .inr ⟨i, j, x, t, 0, h2, rfl, HI.out, HPC.out, ?_, ?_, HFI.out.2.2.2⟩
          · rw [HAF.out, ← HCC.out]
            rfl
          · obtain ⟨I, hI⟩ := HFI.out.2.2.1
            rw [HAF.out]
            exact hI.ok (HBT.out)
        · have HG0 := Lib.hid hg0
          clear hg0
          have HL5 : Hid (StGood t ∧ t.gs = s.gs ∧ t.ms = s.ms ∧ ∃ x', t.ps[i]? = some x' ∧ x'.m = x.m) := Lib.hid (by
            have hl := HPC.out.like HI.out.at_
            exact ⟨HPC.out.good HI.out.at_ HG.out, hl.1, hl.2.1, hl.2.2.2.1⟩)
          obtain ⟨k, y, hk, hy⟩ := St.in_runs HI.out.may ((HPC.out.runs HI.out.at_).resolve_left HG0.out)
          have HPC := Lib.hid HPC.out
          subst hk
          have HY := Lib.hid hy
          have HSQ : Hid (0 ≤ y.seq ∧ y.seq < 4611686018427387904) := Lib.hid (by have := St.may_seq HI.out.may hy; omega)
          obtain ⟨x', hx', hm'⟩ := HL5.out.2.2.2
          have HX' := Lib.hid hx'
          have HM' : Hid (x'.m = (j : Int) + 1) := Lib.hid (hm'.trans HI.out.m)
          have b0 : ((k : Int) + 1 == 0) = false := by simp; omega
          have b1 : ((k : Int) + 1 != 0) = true := by simp; omega
          clear hy hx' hm'
          go_upto_region 10 with fail
          clear b0 b1
          go_wp2_with fail
          refine (frun_any W0 R wa.heap.size i j k C h2 t x' y ((i : Int) + 1, 0) w w9 S5.out (by rw [← HCC.out]; exact ⟨rfl, rfl, rfl⟩) HX'.out HM'.out (by first | (rw [HL5.out.2.2.1]; exact HI.out.hm) | exact HI.out.hm) (by first | (rw [HL5.out.2.1]; exact HY.out) | exact HY.out) HSQ.out HL5.out.1.few).mono ?_
          rintro e w6 ⟨rfl, hs6⟩
          have S6 := Lib.hid hs6
          clear hs6
          have HCL : Hid (C.length = 16) := Lib.hid (by rw [← HCC.out]; rfl)
          have HSZ : Hid ((Try.prog.info? 32).map (·.size) = some C.length) := Lib.hid (by rw [HCL.out]; kernel_rfl)
          have HC1 : Hid (∀ u ∈ C, u.oneCell' = true) := Lib.hid (by rw [← HCC.out]; exact stL_one _ _)
          obtain ⟨cv, hcv⟩ : ∃ cv, Value.agg C.toArray = cv := ⟨_, rfl⟩
          have HCV := Lib.hid hcv
          obtain ⟨wf, hwf⟩ : ∃ wf, w6.setCells R 0 C = wf := ⟨_, rfl⟩
          have hfi := S6.out.fin HCL.out
          rw [hwf] at hfi
          have HFI := Lib.hid hfi
          have HWF := Lib.hid hwf
          have HAF : Hid ((t).after ((i : Int) + 1) ((k : Int) + 1) = (t).runG ((i : Int) + 1) ((k : Int) + 1)) := Lib.hid (by unfold St.after; rw [if_neg (by omega)])
          clear hcv hwf hfi
          go_wp2_with (first | (refine wpList_load_rowM (by rfl) 32 _ rfl W0 0 (by go_simp) C cv HCV.out.symm _ (range_row S6.out.box) Try.underlying32 rfl HSZ.out ?_) | (refine wpList_store_rowM rfl 32 _ _ rfl R 0 C cv (by go_simp) (by go_simp) HCV.out.symm HFI.out.2.1 HSZ.out HC1.out HWF.out ?_))
          refine bodyPost_cell_tmp2 rfl R _ _ _ _ rfl HFI.out.1 Try.underlying32 rfl (by rw [List.size_toArray]; exact HSZ.out) (.int .i64 ((k : Int) + 1)) (.int .i64 0) rfl rfl rfl ?_
          rw [HPQ.out]
          refine .inr ⟨i, j, x, t, ((k : Int) + 1), h2, rfl, HI.out, HPC.out, ?_, ?_, HFI.out.2.2.2⟩
          · rw [HAF.out, ← HCC.out, ← stL_run h2 (t) ((i : Int) + 1) ((k : Int) + 1)]
            rfl
          · obtain ⟨I, hI⟩ := HFI.out.2.2.1
            rw [HAF.out]
            exact hI.ok (HL5.out.1.buf)
end Go.Proofs.Ytogcfndhcphpaaa
namespace Go.Proofs.Ytogcfndhcphpaaa
open Go.RowKit Go.Shelf
attribute [local go_sem] Oper.semAt_some
set_option maxRecDepth 100000 in
set_option maxHeartbeats 2000000 in
theorem rlist_in_own (b0 b1 b2 b3 b4 b5 b6 b7 : Int) (hd nn : Nat) (hhd : hd < 8) (hnn : nn ≤ 8) (hm : Ri.may ⟨[b0, b1, b2, b3, b4, b5, b6, b7], hd, nn⟩ = true) (w : World) :
    Calls Try.prog 118 #[.agg #[.int .i64 b0, .int .i64 b1, .int .i64 b2, .int .i64 b3, .int .i64 b4, .int .i64 b5, .int .i64 b6, .int .i64 b7, .int .i64 (hd : Int), .int .i64 (nn : Int)]] w fun e w' => ∃ v, e = .returned v ∧ OwnInts w' w.heap.size v (seconds (upto (Ri.pair hd [b0, b1, b2, b3, b4, b5, b6, b7]) nn)) ∧ Ext w w' := by
  have HM := Lib.hid hm
  clear hm
  obtain ⟨i0, hi, hz0, hz1, hz2⟩ := info_parts Try.infoRint
  refine (callsIn_wide (n := 3)).1 ?_
  have h1 : 1 ≤ 3 := by omega
  refine callsIn_of_wp_marks Try.func118 rfl trivial ?_ rfl
  simp only [Try.ntmps118, List.size_toArray, List.length_cons, List.length_nil, Nat.reduceAdd, Nat.reduceSub, Array.replicate_succ, Array.replicate_zero, List.push_toArray, List.append_toArray, List.nil_append, List.cons_append]
  gi_wp2_with fail
  refine ⟨trivial, callsIn_wide.2 ((rmay_eq b0 b1 b2 b3 b4 b5 b6 b7 hd nn _ HM.out _).mono ?_)⟩
  rintro r w1 ⟨rfl, hx1⟩
  obtain ⟨⟨q0, q1, q2, q3, q4⟩, q5, q6, q7, q8, q9⟩ := cells10 (blk_alloc (hx1.blk (blk_new w (.cells #[.int .i64 b0, .int .i64 b1, .int .i64 b2, .int .i64 b3, .int .i64 b4, .int .i64 b5, .int .i64 b6, .int .i64 b7, .int .i64 (hd : Int), .int .i64 (nn : Int)] 38))) (.cells #[.slice none 0 0] 27))
  have HX1 : Hid (Ext w w1) := Lib.hid (((Ext.refl w).alloc _).trans hx1)
  clear hx1
  gi_wp2_with fail
  refine ⟨trivial, (elements_in Fence.wide (3 - 1) trivial rfl _ _ _ _ _ _ _ _ _ _ _).mono ?_⟩
  rintro e w' ⟨rfl, rfl⟩
  clear q0 q1 q2 q3 q4 q5 q6 q7 q8 q9
  gi_wp2_with fail
  have bO := (Boxed.new w1 27 (.slice none 0 0)).alloc (.cells #[.int .i64 b0, .int .i64 b1, .int .i64 b2, .int .i64 b3, .int .i64 b4, .int .i64 b5, .int .i64 b6, .int .i64 b7, .int .i64 (hd : Int), .int .i64 (nn : Int)] 38)
  have hA3 : RingIn (w1.heap.size + 1) ⟨[b0, b1, b2, b3, b4, b5, b6, b7], hd, nn⟩ ((w1.alloc (.cells #[.slice none 0 0] 27)).alloc (.cells #[.int .i64 b0, .int .i64 b1, .int .i64 b2, .int .i64 b3, .int .i64 b4, .int .i64 b5, .int .i64 b6, .int .i64 b7, .int .i64 (hd : Int), .int .i64 (nn : Int)] 38)) := by
    have := blk_new (w1.alloc (.cells #[.slice none 0 0] 27)) (.cells #[.int .i64 b0, .int .i64 b1, .int .i64 b2, .int .i64 b3, .int .i64 b4, .int .i64 b5, .int .i64 b6, .int .i64 b7, .int .i64 (hd : Int), .int .i64 (nn : Int)] 38)
    rwa [World.size_alloc] at this
  have hX0 : Ext w ((w1.alloc (.cells #[.slice none 0 0] 27)).alloc (.cells #[.int .i64 b0, .int .i64 b1, .int .i64 b2, .int .i64 b3, .int .i64 b4, .int .i64 b5, .int .i64 b6, .int .i64 b7, .int .i64 (hd : Int), .int .i64 (nn : Int)] 38)) := (HX1.out.alloc _).alloc _
  have hS3 : ((w1.alloc (.cells #[.slice none 0 0] 27)).alloc (.cells #[.int .i64 b0, .int .i64 b1, .int .i64 b2, .int .i64 b3, .int .i64 b4, .int .i64 b5, .int .i64 b6, .int .i64 b7, .int .i64 (hd : Int), .int .i64 (nn : Int)] 38)).heap.size = w1.heap.size + 2 := by simp [World.size_alloc]
  have hsz := HX1.out.size
  generalize hW3 : (w1.alloc (.cells #[.slice none 0 0] 27)).alloc (.cells #[.int .i64 b0, .int .i64 b1, .int .i64 b2, .int .i64 b3, .int .i64 b4, .int .i64 b5, .int .i64 b6, .int .i64 b7, .int .i64 (hd : Int), .int .i64 (nn : Int)] 38) = W3 at *
  clear hW3
  apply wpIn_rangeFunc_ownG rfl h1 (gf := 126) (lb := #[.pointer (some ⟨w1.heap.size + 1, 0, none⟩)]) rfl trivial (enters_of Try.func126 (by kernel_rfl) rfl)
    (elements_stops Fence.wide (3 - 1) trivial rfl (by omega) (w1.heap.size + 1) hd nn [b0, b1, b2, b3, b4, b5, b6, b7] rfl hhd hnn W3 (by omega) hA3) (keepsAt_t (w1.heap.size + 1)) (keepsAt_b (by omega)) (Below.refl _ _) (fun _ => rfl)
    (fun pre W => ((∃ v, Boxed W w1.heap.size 27 v ∧ W.ownsRow w.heap.size 3 1 v (seconds pre).length (intsV (seconds pre)) ∧ True) ∧ RingIn (w1.heap.size + 1) ⟨[b0, b1, b2, b3, b4, b5, b6, b7], hd, nn⟩ W) ∧ Ext w W)
    (fun _ _ _ => False)
    (OwnFrom.and (OwnFrom.and (Own.from (holdsRow_own w.heap.size w1.heap.size 27 3 1 (fun pre => (seconds pre).length) (fun pre => intsV (seconds pre)) (fun _ _ => True)) _) (Own.from (fun s A B row hs hg hr => blk_own (w1.heap.size + 1) (fun (_ : Unit) => .cells (⟨[b0, b1, b2, b3, b4, b5, b6, b7], hd, nn⟩ : Ri).cells 38 (0, 0)) (fun _ => rfl) () A B row hs hg hr) _)) (ownFrom_below (Nat.le_refl _) (by omega)))
    (fun _ _ _ _ _ hs _ _ => hs)
    ⟨⟨⟨_, bO, World.ownsRow_nil _ _ _ _, trivial⟩, hA3⟩, hX0⟩ _ ?assign ?body ?done ?stop
  case assign =>
    intro l x W K hK
    gi_wp2
    exact hK
  case body =>
    rintro l pre ⟨⟨x1, x2⟩, hx0, hx8⟩ W ⟨⟨⟨v, hv, hrow, _⟩, hA⟩, hB⟩ hlt
    have hc := hv.cell
    have hpl := seconds_len pre
    have hne := ring_not_row hA hrow
    gi_wp2_with (gi_at_builtin; refine wpListIn_append_own _ rfl _ _ 27 rfl w.heap.size 3 i0 (.int .i64 0) 1 8 Try.underlying27 hi hz0 hz1 hz2 rfl (by decide) _ _ _ rfl (hrow.alloc _) ⟨W.heap.size, 0, none⟩ 1 1 [.int .i64 x2] rfl rfl (cell_one_new _ _ _) (by simp [Value.oneCell']) (by unfold maxLen; omega) (by omega) (by have := hB.size; simp; omega) ?_; intro v' w2 hown' hgrow _; obtain ⟨g', cap', rfl⟩ := ownsRow_succ hown'; obtain ⟨hv1, hv2, hr2, hk2, hb2⟩ := hv.appended (by decide) hrow hB.size hsz hown' hgrow; have hc1 := hv1.cell; have hf1 := hv1.frozen)
    have hA2 : RingIn (w1.heap.size + 1) ⟨[b0, b1, b2, b3, b4, b5, b6, b7], hd, nn⟩ w2 := (hgrow.block (w1.heap.size + 1) (by have := blk_lt hA; simp; omega) hne).trans (blk_alloc hA _)
    have hA3' := blk_set_other hA2 ⟨w1.heap.size, 0, none⟩ (by simp only; omega) (.slice (some ⟨g', 0, none⟩) ((seconds pre).length + 1) cap')
    (try simp only [hpl] at hA3')
    (try simp only [hpl] at hv2)
    (try simp only [hpl] at hr2)
    (try simp only [hpl] at hk2)
    (try simp only [hpl] at hb2)
    refine ⟨hk2.from _, fun o ho => ?_, ⟨⟨_, hv2, ?_⟩, hA3'⟩, Below.trans (show Below w.heap.size w W from hB) hb2⟩
    · rw [show W.heap[w1.heap.size + 1]? = _ from hA] at ho
      cases ho
      exact hA3'
    · rw [seconds_snoc]
      simpa [intsV, hpl] using hr2
  case done =>
    rintro D ys W hD rfl ⟨⟨⟨v, hv, hrow, _⟩, hA⟩, hB⟩ hK
    have hc := hv.cell
    gi_wp2
    refine ⟨by simp, .inl ⟨_, _, rfl, run_takeDeferred hK, ?_⟩⟩
    exact ⟨_, results_tmp rfl _ _ _, v, rfl, ownsRow_putObj hrow (.deferred none) hK rfl, Below.trans (show Below w.heap.size w W from hB) (belowK_b (w := w) (Nat.le_refl _) W D _ _ (by omega) hK rfl rfl)⟩
  case stop =>
    rintro D c pre W _ _ h _
    exact h.elim
theorem rlist_own (b0 b1 b2 b3 b4 b5 b6 b7 hd nn : Int) (l : List Int) (h : Ri.list ⟨[b0, b1, b2, b3, b4, b5, b6, b7], hd, nn⟩ = l) (w : World) :
    Calls Try.prog 118 #[.agg #[.int .i64 b0, .int .i64 b1, .int .i64 b2, .int .i64 b3, .int .i64 b4, .int .i64 b5, .int .i64 b6, .int .i64 b7, .int .i64 hd, .int .i64 nn]] w fun e w' => ∃ v, e = .returned v ∧ OwnInts w' w.heap.size v l ∧ Ext w w' := by
  subst h
  cases hm : Ri.may ⟨[b0, b1, b2, b3, b4, b5, b6, b7], hd, nn⟩ with
  | false =>
    refine (rlist_no b0 b1 b2 b3 b4 b5 b6 b7 hd nn hm w).mono ?_
    rintro e w' ⟨rfl, hx⟩
    refine ⟨_, rfl, ?_, hx⟩
    unfold Ri.list
    rw [hm]
    exact OwnInts.nil _ _
  | true =>
    have hi : Ri.inside ⟨[b0, b1, b2, b3, b4, b5, b6, b7], hd, nn⟩ = true := by have := hm; unfold Ri.may at this; rw [Bool.and_eq_true] at this; exact this.1
    obtain ⟨a, n, rfl, rfl, h1, h2⟩ := Ri.inside_nat hi
    rw [Ri.list_upto hm]
    exact rlist_in_own b0 b1 b2 b3 b4 b5 b6 b7 a n h1 h2 hm w
end Go.Proofs.Ytogcfndhcphpaaa
namespace Go.Proofs.Ytogcfndhcphpaaa
open Go.RowKit
theorem fclo_any (x g : Int) (G : Nat) (r : Bool) (hr : (x == g) = r) (w : World) (hG : w.cell? ⟨G, 0, none⟩ = some (.int .i64 g)) : Calls Try.prog 91 #[.int .i64 x, .pointer (some ⟨G, 0, none⟩)] w fun e w' => e = .returned (.bool r) ∧ Ext w w' := by
  go_enter Try.func91, Try.ntmps91
  go_wp2
  go_ret
  exact ⟨by rw [← hr] <;> rfl, Ext.refl _⟩
set_option maxRecDepth 100000 in
set_option maxHeartbeats 2000000 in
theorem fidx_any (A : Option Addr) (c : Nat) (l : List Int) (g : Int) (G : Nat) (w : World) (h : IntsAt w (.slice A l.length c) l) (hl : l.length ≤ 100000000) (hG : w.cell? ⟨G, 0, none⟩ = some (.int .i64 g)) (hGl : G < w.heap.size) :
    Calls Try.prog 110 #[.slice A l.length c, .func (.func 91) #[] #[.pointer (some ⟨G, 0, none⟩)]] w fun e w' => ∃ i : Int, e = .returned (.int .i64 i) ∧ ((i = -1 ∧ ∀ (j : Nat) x, l[j]? = some x → x ≠ g) ∨ ∃ k : Nat, i = (k : Int) ∧ (∃ x, l[k]? = some x ∧ x = g) ∧ ∀ (j : Nat) x, l[j]? = some x → j < k → x ≠ g) ∧ Ext w w' := by
  have H := Lib.hid h
  have HG := Lib.hid hG
  have HGL := Lib.hid hGl
  have hl' : (l.length : Int) ≤ 100000000 := by omega
  clear h hG hGl
  go_enter Try.func110, Try.ntmps110
  go_wp2_with fail
  go_loopw [8] (fun iv wr => ∃ k : Nat, k ≤ l.length ∧ iv = .int .i64 k ∧ (∀ (j : Nat) x, l[j]? = some x → j < k → x ≠ g) ∧ Ext w wr) (fun iv _ => l.length - (intOf iv).toNat)
  case atStart => exact ⟨0, Nat.zero_le _, rfl, fun j x _ h => by omega, Ext.refl _⟩
  case round =>
    obtain ⟨k, hk, rfl, hall, hx⟩ := hrel
    have HA := Lib.hid hall
    have HX := Lib.hid hx
    clear hall hx
    by_cases hlt : k < l.length
    · obtain ⟨x, hx⟩ : ∃ x, l[k]? = some x := ⟨_, List.getElem?_eq_getElem hlt⟩
      have HXK := Lib.hid hx
      have hcl := fclo_any x g G _ rfl wr (by rw [Below.cell (p := ⟨G, 0, none⟩) HX.out HGL.out]; exact HG.out)
      have HCL := Lib.hid hcl
      obtain ⟨b, o, rfl, hb, hc⟩ := ints_get (H.out.ext HX.out) hx
      clear hx hb hcl
      go_wp2_with fail
      refine HCL.out.mono ?_
      rintro e wa ⟨rfl, hxa⟩
      have HXA := Lib.hid (HX.out.trans hxa)
      clear hxa hc
      by_cases h1 : x = g
      · have HN := Lib.hid h1
        have h1' : (x == g) = true := by simpa using h1
        clear h1
        go_wp2
        go_ret
        exact ⟨k, rfl, .inr ⟨k, rfl, ⟨x, HXK.out, HN.out⟩, HA.out⟩, HXA.out⟩
      · have h1' : (x == g) = false := by simpa using h1
        have HN := Lib.hid h1
        clear h1
        go_wp2
        go_roundw
        case rel =>
          refine ⟨k + 1, by omega, by go_num, fun j y hy hj => ?_, HXA.out⟩
          by_cases hjk : j < k
          · exact HA.out j y hy hjk
          · obtain rfl : j = k := by omega
            have := HXK.out
            rw [hy] at this
            injection this with this
            rw [this]
            exact HN.out
        case measure => simp [intOf]; omega
    · obtain rfl : k = l.length := by omega
      go_wp2
      go_ret
      exact ⟨-1, rfl, .inl ⟨rfl, fun j x hj => HA.out j x hj (List.getElem?_eq_some_iff.1 hj).1⟩, HX.out⟩
set_option maxRecDepth 100000 in
set_option maxHeartbeats 4000000 in
theorem fdel_any (A : Option Addr) (c : Nat) (l : List Int) (g : Int) (G B : Nat) (w : World) (ho : OwnRows 3 1 numL w B (.slice A l.length c) l) (hl : l.length ≤ 1000000) (hG : w.cell? ⟨G, 0, none⟩ = some (.int .i64 g)) (hGB : G < B) (hB : B ≤ w.heap.size) :
    Calls Try.prog 51 #[.slice A l.length c, .func (.func 91) #[] #[.pointer (some ⟨G, 0, none⟩)]] w fun e w' => e = .returned (.slice A (l.filter (fun x => x != g)).length c) ∧ OwnRows 3 1 numL w' B (.slice A (l.filter (fun x => x != g)).length c) (l.filter (fun x => x != g)) ∧ But (fun b => (Value.slice A l.length c).ownBlock = some b) w w' := by
  have HO := Lib.hid ho
  have HG := Lib.hid hG
  have HGB := Lib.hid hGB
  have HBB := Lib.hid hB
  have HIX := Lib.hid (fidx_any A c l g G w (ints_rows.2 ho).at.2 (by omega) hG (by omega))
  clear ho hG hGB hB
  go_enter Try.func51, Try.ntmps51
  go_wp2_with fail
  refine HIX.out.mono ?_
  rintro e w1 ⟨i0, rfl, hcase, hx1⟩
  clear HIX
  have HX1 := Lib.hid hx1
  clear hx1
  rcases hcase with ⟨rfl, hno⟩ | ⟨k, rfl, ⟨x, hxk, hxg⟩, hbef⟩
  · have HF : Hid (l.filter (fun x => x != g) = l) := Lib.hid (filter_none fun j x hj => by simpa using hno j x hj)
    clear hno
    go_wp2
    go_ret
    rw [HF.out]
    exact ⟨rfl, HO.out.ext HX1.out, But.ext HX1.out⟩
  · have hkl := (List.getElem?_eq_some_iff.1 hxk).1
    obtain ⟨b, rfl, hbB, hbw, _, hlc⟩ := own_block HO.out (by omega)
    have HBL : Hid (B ≤ b ∧ b < w.heap.size ∧ l.length ≤ c) := Lib.hid ⟨hbB, hbw, hlc⟩
    have HST : Hid (l.take k = (l.take (k + 1)).filter (fun x => x != g)) := Lib.hid (filter_first hxk (by simp [hxg]) fun j y hj hjk => by simpa using hbef j y hj hjk)
    have hb1 : (k : Int) < 1000000 := by omega
    have hneg : ((k : Int) == -1) = false := by rw [beq_eq_false_iff_ne]; omega
    clear hxk hxg hbef hbB hbw hlc
    go_wp2_with fail
    clear hneg
    go_loopw [5, 6] (fun iv jv wr => ∃ (i j : Nat) (ys : List Int), iv = .int .i64 i ∧ jv = .int .i64 j ∧ i < j ∧ j ≤ l.length ∧ OwnRows 3 1 numL wr B (.slice (some ⟨b, 0, none⟩) l.length c) ys ∧ ys.take i = (l.take j).filter (fun x => x != g) ∧ ys.drop j = l.drop j ∧ ys.length = l.length ∧ But (fun x => x = b) w wr) (fun _ jv _ => l.length - (intOf jv).toNat)
    case atStart => exact ⟨k, k + 1, l, rfl, by go_num, by omega, by omega, HO.out.ext HX1.out, HST.out, rfl, rfl, But.ext HX1.out⟩
    case round =>
      obtain ⟨i, j, ys, rfl, rfl, hij, hj, hown, htk, hdr, hyl, hbt⟩ := hrel
      have HOW := Lib.hid hown
      have HTK := Lib.hid htk
      have HDR := Lib.hid hdr
      have HYL := Lib.hid hyl
      have HBT := Lib.hid hbt
      clear hown htk hdr hyl hbt
      by_cases hlt : j < l.length
      · obtain ⟨x, hx⟩ : ∃ x, l[j]? = some x := ⟨_, List.getElem?_eq_getElem hlt⟩
        have hyx : ys[j]? = some x := by
          have h1 : (ys.drop j)[0]? = (l.drop j)[0]? := by rw [HDR.out]
          rw [List.getElem?_drop, List.getElem?_drop, Nat.add_zero] at h1
          rw [h1]; exact hx
        have hyl := HYL.out
        obtain ⟨b', o', hbo, _, hgt⟩ := (OwnRows.rows numL_len HOW.out).get hyx
        simp only [Option.some.injEq, Addr.mk.injEq, and_true] at hbo
        obtain ⟨rfl, rfl⟩ := hbo
        have hGw : wr.cell? ⟨G, 0, none⟩ = some (.int .i64 g) := by rw [HBT.out.cell (by have := HGB.out; have := HBB.out; omega) (by have := HGB.out; have := HBL.out; omega)]; exact HG.out
        have hc : wr.cell? ⟨b, j, none⟩ = some (.int .i64 x) := by have := hgt 0 _ rfl; rwa [Nat.mul_one, Nat.zero_add, Nat.add_zero] at this
        have HCL := Lib.hid (fclo_any x g G _ rfl wr hGw)
        have HX := Lib.hid hx
        have HYX := Lib.hid hyx
        clear hx hyx hgt hGw hyl
        go_wp2_with fail
        refine HCL.out.mono ?_
        rintro e wa ⟨rfl, hxa⟩
        have HXA := Lib.hid hxa
        clear hxa hc HCL
        by_cases h1 : x = g
        · have h1' : (x == g) = true := by simpa using h1
          have HS := Lib.hid (del_skip (p := (fun x => x != g)) HTK.out HDR.out HX.out (by simp [h1]))
          clear h1
          go_wp2
          go_roundw
          case rel => exact ⟨i, j + 1, ys, rfl, by go_num, by omega, by omega, HOW.out.ext HXA.out, HS.out.1, HS.out.2, HYL.out, HBT.out.trans (But.ext HXA.out)⟩
          case measure => simp [intOf]; omega
        · have h1' : (x == g) = false := by simpa using h1
          have hS := del_keep (p := (fun x => x != g)) HTK.out HDR.out hij HYL.out HX.out (by simpa using h1)
          have hyl := HYL.out
          obtain ⟨g', c', e1, _, _, _, hth, hown', hu⟩ := OwnRows.setCells (m := 1) numL_len (HOW.out.ext HXA.out) (i := i) (x' := x) (List.getElem?_eq_getElem (by omega)) (j := 0) (ds := [.int .i64 x]) (Nat.le_refl 1) (fun t ht => by match t, ht with | 0, _ => rfl)
          simp only [Value.slice.injEq, Option.some.injEq, Addr.mk.injEq, and_true] at e1
          have e2 := e1.1
          clear e1
          subst e2
          have r0 := (hth 0 (Nat.lt_succ_self 0)).1
          have r1 := (hth 0 (Nat.lt_succ_self 0)).2
          simp only [Nat.mul_one, Nat.add_zero] at r0 r1
          obtain ⟨ov, r0⟩ := Option.isSome_iff_exists.1 r0
          obtain ⟨wn, hwn⟩ : ∃ wn, wa.setCell ⟨b, i, none⟩ (.int .i64 x) = wn := ⟨_, rfl⟩
          have ewn : wa.setCells b (i * 1 + 0) [.int .i64 x] = wn := by rw [← hwn, Nat.mul_one, Nat.add_zero]; rfl
          rw [ewn] at hown' hu
          have HS := Lib.hid hS
          have HON := Lib.hid hown'
          have HUN := Lib.hid hu
          have HWN := Lib.hid hwn
          have hb2 : (i : Int) < (l.length : Int) := by omega
          have hb3 : (i : Int) < 1000000 := by omega
          have hb4 : (j : Int) < 1000000 := by omega
          clear h1 hS hth hown' hu hwn ewn hyl
          go_wp2_with (rw [HWN.out])
          go_roundw
          case rel => exact ⟨i + 1, j + 1, ys.set i x, by go_num, by go_num, by omega, by omega, HON.out, HS.out.1, HS.out.2.1, HS.out.2.2, (HBT.out.trans (But.ext HXA.out)).trans (But.upd HUN.out rfl)⟩
          case measure => simp [intOf]; omega
      · obtain rfl : j = l.length := by omega
        have hyl := HYL.out
        have hlc := HBL.out.2.2
        have htk := HTK.out
        rw [List.take_length] at htk
        have hfl : (l.filter (fun x => x != g)).length = i := by rw [← htk, List.length_take]; omega
        have S1 : ∀ v, _ := cut1_from b l.length c i hij hlc
        have S2 : ∀ v, _ := cut1_to (some ⟨b, 0, none⟩) l.length c i (Nat.le_of_lt hij) hlc
        obtain ⟨zs, hzl, hclr⟩ := run_clear_rows (P := Try.prog) wr 27 3 (.int .i64 0) 1 Try.underlying27 (fun _ => by kernel_rfl) (by kernel_rfl) (by simp [Value.cells, Value.oneCell']) b (i * 1) (l.length - i) (c - i) (by omega) (there_own HOW.out (by rw [hyl, Nat.sub_mul]; have : i * 1 ≤ l.length * 1 := Nat.mul_le_mul_right _ (Nat.le_of_lt hij); omega))
        have hct := OwnRows.cutTo numL_len HOW.out (i := i) (by omega) (zs := zs) (by rw [hzl, hyl])
        rw [htk] at hct
        have HCT := Lib.hid hct
        have HFL := Lib.hid hfl
        clear hyl htk hfl hct hzl
        simp only [Nat.mul_one] at hclr HCT
        go_wp2
        go_ret
        rw [HFL.out]
        exact ⟨rfl, HCT.out.1, (HBT.out.trans (But.upd HCT.out.2 rfl)).wide fun y _ e => by subst e; rfl⟩
end Go.Proofs.Ytogcfndhcphpaaa
namespace Go.Proofs.Ytogcfndhcphpaaa
open Go.RowKit
theorem Ri.empty_holds (hd : Nat) (h : hd < 8) : (⟨[0, 0, 0, 0, 0, 0, 0, 0], hd, 0⟩ : Ri).Holds [] := by
  refine ⟨hd, 0, rfl, rfl, h, by omega, rfl, fun j hj => ?_, rfl⟩
  rw [if_neg (by omega)]
  obtain rfl | rfl | rfl | rfl | rfl | rfl | rfl | rfl : j = 0 ∨ j = 1 ∨ j = 2 ∨ j = 3 ∨ j = 4 ∨ j = 5 ∨ j = 6 ∨ j = 7 := by omega
  all_goals rfl
theorem Ri.push_head {r r' : Ri} {g : Int} (h : r.push g = (r', true)) : r'.head = r.head := by
  unfold Ri.push at h
  split at h
  · have := congrArg (fun q => q.1.head) h
    exact this.symm
  · simp at h
set_option maxRecDepth 100000 in
set_option maxHeartbeats 8000000 in
theorem fwithout_any (b0 b1 b2 b3 b4 b5 b6 b7 hd nn g : Int) (l : List Int) (hh : Ri.Holds ⟨[b0, b1, b2, b3, b4, b5, b6, b7], hd, nn⟩ l) (w : World) : Calls Try.prog 90 #[.agg #[.int .i64 b0, .int .i64 b1, .int .i64 b2, .int .i64 b3, .int .i64 b4, .int .i64 b5, .int .i64 b6, .int .i64 b7, .int .i64 hd, .int .i64 nn], .int .i64 g] w fun e w' => ∃ r' : Ri, e = .returned (.agg (rL r').toArray) ∧ r'.Holds (l.filter (· != g)) ∧ r'.head = hd ∧ Ext w w' := by
  have HH := Lib.hid hh
  obtain ⟨hdn, hd1, hd3⟩ : ∃ k : Nat, hd = (k : Int) ∧ k < 8 := by obtain ⟨a, b, d1, d2, d3, _⟩ := hh; exact ⟨a, d1, d3⟩
  have HDN : Hid (hd = (hdn : Int) ∧ hdn < 8) := Lib.hid ⟨hd1, hd3⟩
  have HN8 := Lib.hid (Ri.holds_n hh).2
  have HL := Lib.hid (Ri.list_of hh)
  have HPOS := Lib.hid (Ri.holds_pos hh)
  clear hh hd1 hd3
  obtain ⟨B, hB⟩ : ∃ B, w.heap.size = B := ⟨_, rfl⟩
  obtain ⟨RB, hR⟩ : ∃ RB, B + 1 = RB := ⟨_, rfl⟩
  obtain ⟨BO, hO⟩ : ∃ BO, RB + 1 = BO := ⟨_, rfl⟩
  obtain ⟨w2, hw2⟩ : ∃ w2, (w.alloc (.cells #[.int .i64 b0, .int .i64 b1, .int .i64 b2, .int .i64 b3, .int .i64 b4, .int .i64 b5, .int .i64 b6, .int .i64 b7, .int .i64 hd, .int .i64 nn] 38)).alloc (.cells #[.int .i64 0, .int .i64 0, .int .i64 0, .int .i64 0, .int .i64 0, .int .i64 0, .int .i64 0, .int .i64 0, .int .i64 0, .int .i64 0] 38) = w2 := ⟨_, rfl⟩
  obtain ⟨w3, hw3⟩ : ∃ w3, w2.alloc (.cells #[.int .i64 0, .int .i64 0, .int .i64 0, .int .i64 0, .int .i64 0, .int .i64 0, .int .i64 0, .int .i64 0, .int .i64 0, .int .i64 0] 38) = w3 := ⟨_, rfl⟩
  obtain ⟨w4, hw4⟩ : ∃ w4, w3.setCells BO 0 (rL ⟨[0, 0, 0, 0, 0, 0, 0, 0], hd, 0⟩) = w4 := ⟨_, rfl⟩
  have hs1 : (w.alloc (.cells #[.int .i64 b0, .int .i64 b1, .int .i64 b2, .int .i64 b3, .int .i64 b4, .int .i64 b5, .int .i64 b6, .int .i64 b7, .int .i64 hd, .int .i64 nn] 38)).heap.size = RB := by rw [World.size_alloc, hB, hR]
  have hs2 : w2.heap.size = BO := by rw [← hw2, World.size_alloc, hs1, hO]
  have hx2 : Ext w w2 := by rw [← hw2]; exact ((Ext.refl w).alloc _).alloc _
  have hb2 : w2.heap[B]? = some (.cells #[.int .i64 b0, .int .i64 b1, .int .i64 b2, .int .i64 b3, .int .i64 b4, .int .i64 b5, .int .i64 b6, .int .i64 b7, .int .i64 hd, .int .i64 nn] 38 (0, 0)) := by rw [← hw2, ← hB]; exact blk_alloc (blk_new w _) _
  have hr2 : w2.heap[RB]? = some (.cells (rL Ri.zero).toArray 38 (0, 0)) := by
    have := blk_new (w.alloc (.cells #[.int .i64 b0, .int .i64 b1, .int .i64 b2, .int .i64 b3, .int .i64 b4, .int .i64 b5, .int .i64 b6, .int .i64 b7, .int .i64 hd, .int .i64 nn] 38)) (.cells #[.int .i64 0, .int .i64 0, .int .i64 0, .int .i64 0, .int .i64 0, .int .i64 0, .int .i64 0, .int .i64 0, .int .i64 0, .int .i64 0] 38)
    rw [hw2, hs1] at this
    exact this
  have hb3 : w3.heap[BO]? = some (.cells (rL Ri.zero).toArray 38 (0, 0)) := by rw [← hw3, ← hs2]; exact blk_new w2 _
  have hx3 : Ext w2 w3 := by rw [← hw3]; exact (Ext.refl w2).alloc _
  have hu4 : Upd BO w3 w4 := by rw [← hw4]; exact setCells_upd _ _ _ _
  have hx4 : Ext w2 w4 := hx3.upd hu4 (by omega)
  have HT3 : Hid (w3.there BO 0 (rL ⟨[0, 0, 0, 0, 0, 0, 0, 0], hd, 0⟩).length) := Lib.hid (there_row hb3 (Nat.le_refl 10))
  have HB4 : Hid (w4.heap[BO]? = some (.cells (rL ⟨[0, 0, 0, 0, 0, 0, 0, 0], hd, 0⟩).toArray 38 (0, 0))) := Lib.hid (by rw [← hw4]; exact setCells_at (rL Ri.zero) (rL ⟨[0, 0, 0, 0, 0, 0, 0, 0], hd, 0⟩) rfl hb3)
  have HA4 := Lib.hid (hx4.blk hb2)
  have HR4 := Lib.hid (hx4.blk hr2)
  have HX4 := Lib.hid (hx2.trans hx4)
  have p8 : w2.cell? ⟨B, 8, none⟩ = some (.int .i64 hd) := blk_cell hb2 8 _ rfl
  have HS4 : Hid (BO < w4.heap.size ∧ w.heap.size = B ∧ B + 1 = RB ∧ RB + 1 = BO) := Lib.hid ⟨blk_lt HB4.out, hB, hR, hO⟩
  have HW2 : Hid ((w.alloc (.cells #[.int .i64 b0, .int .i64 b1, .int .i64 b2, .int .i64 b3, .int .i64 b4, .int .i64 b5, .int .i64 b6, .int .i64 b7, .int .i64 hd, .int .i64 nn] 38)).alloc (.cells #[.int .i64 0, .int .i64 0, .int .i64 0, .int .i64 0, .int .i64 0, .int .i64 0, .int .i64 0, .int .i64 0, .int .i64 0, .int .i64 0] 38) = w2) := Lib.hid hw2
  have HW3 := Lib.hid hw3
  have HW4 := Lib.hid hw4
  have HBB := Lib.hid hB
  have HRR := Lib.hid hR
  have HS2 := Lib.hid hs2
  obtain ⟨rv, hrv⟩ : ∃ rv, Value.agg #[.int .i64 b0, .int .i64 b1, .int .i64 b2, .int .i64 b3, .int .i64 b4, .int .i64 b5, .int .i64 b6, .int .i64 b7, .int .i64 hd, .int .i64 nn] = rv := ⟨_, rfl⟩
  have HRV := Lib.hid hrv
  obtain ⟨zv, hzv⟩ : ∃ zv, Value.agg #[.int .i64 0, .int .i64 0, .int .i64 0, .int .i64 0, .int .i64 0, .int .i64 0, .int .i64 0, .int .i64 0, .int .i64 hd, .int .i64 0] = zv := ⟨_, rfl⟩
  have HZV := Lib.hid hzv
  clear hB hR hO hw2 hw3 hw4 hs1 hs2 hx2 hb2 hr2 hb3 hx3 hu4 hx4 hrv hzv
  go_enter Try.func90, Try.ntmps90
  go_upto_region 1 with fail
  rw [HW2.out, HBB.out, HRR.out]
  go_upto_region 2 with (first | rw [HW3.out, HS2.out] | (refine wpList_store_rowM rfl 38 _ _ rfl BO 0 (rL ⟨[0, 0, 0, 0, 0, 0, 0, 0], hd, 0⟩) zv (by go_simp) (by go_simp; exact HZV.out) HZV.out.symm HT3.out (by kernel_rfl) (rL_one _) HW4.out ?_))
  clear p8
  go_wp2_with (refine wpList_load_rowM (by rfl) 38 _ rfl B 0 (by go_simp) (rL ⟨[b0, b1, b2, b3, b4, b5, b6, b7], hd, nn⟩) rv HRV.out.symm _ (range_row HA4.out) Try.underlying38 rfl (by first | kernel_rfl | (rw [pL_len]; kernel_rfl)) ?_)
  rw [← HRV.out]
  refine (rlist_own b0 b1 b2 b3 b4 b5 b6 b7 hd nn l HL.out w4).mono ?_
  rintro e w5 ⟨v, rfl, ho, hx5⟩
  obtain ⟨A, c, rfl⟩ := ho.form
  have HO5 := Lib.hid ho
  have HX5 := Lib.hid (HX4.out.trans hx5)
  have HB5 := Lib.hid (hx5.blk HB4.out)
  have HR5 := Lib.hid (hx5.blk HR4.out)
  clear ho hx5
  go_wp2_with fail
  go_loopw [14] (fun iv wr => ∃ (k : Nat) (r : Ri), k ≤ l.length ∧ iv = .int .i64 k ∧ r.Holds ((l.take k).filter (fun x => x != g)) ∧ r.head = hd ∧ wr.heap[BO]? = some (.cells (rL r).toArray 38 (0, 0)) ∧ wr.heap[RB]? = some (.cells (rL Ri.zero).toArray 38 (0, 0)) ∧ OwnInts wr w4.heap.size (.slice A l.length c) l ∧ Ext w wr) (fun iv _ => l.length - (intOf iv).toNat)
  case atStart => exact ⟨0, ⟨[0, 0, 0, 0, 0, 0, 0, 0], hd, 0⟩, by omega, rfl, by rw [HDN.out.1]; exact Ri.empty_holds hdn HDN.out.2, rfl, HB5.out, HR5.out, HO5.out, HX5.out⟩
  case round =>
    obtain ⟨k, r, hk, rfl, hr, hrh, hb, hrb, ho, hx⟩ := hrel
    have HRH := Lib.hid hr
    have HRD := Lib.hid hrh
    have HB := Lib.hid hb
    have HRB := Lib.hid hrb
    have HO := Lib.hid ho
    have HX := Lib.hid hx
    clear hr hrh hb hrb ho hx
    by_cases hlt : k < l.length
    · obtain ⟨x, hx⟩ : ∃ x, l[k]? = some x := ⟨_, List.getElem?_eq_getElem hlt⟩
      obtain ⟨bo, oo, rfl, hbo, hcx⟩ := ints_get HO.out.at.2 hx
      have HXK := Lib.hid hx
      have HX1 := Lib.hid (HPOS.out x (List.mem_of_getElem? hx))
      have e2 : (k : Int) < 100000 := by have := HN8.out; omega
      clear hx hbo
      by_cases h1 : x = g
      · have h1' : (x != g) = false := by simpa using h1
        have NH : Hid (r.Holds ((l.take (k + 1)).filter (fun x => x != g))) := Lib.hid (by rw [List.take_add_one, HXK.out, List.filter_append]; simpa [h1] using HRH.out)
        clear h1
        go_wp2
        go_roundw
        case rel => exact ⟨k + 1, r, by omega, by go_num, NH.out, HRD.out, HB.out, HRB.out, HO.out, HX.out⟩
        case measure => simp [intOf]; omega
      · have h1' : (x != g) = true := by simpa using h1
        have hlk : ((l.take k).filter (fun x => x != g)).length < 8 := Nat.lt_of_le_of_lt (List.length_filter_le _ _) (by rw [List.length_take]; have := HN8.out; omega)
        obtain ⟨r', hp, hr'⟩ := Ri.holds_push HRH.out HX1.out hlk
        have NH : Hid (r'.Holds ((l.take (k + 1)).filter (fun x => x != g))) := Lib.hid (by rw [List.take_add_one, HXK.out, List.filter_append]; simpa [h1] using hr')
        have NHD : Hid (r'.head = hd) := Lib.hid ((Ri.push_head hp).trans HRD.out)
        obtain ⟨c0, c1, c2, c3, c4, c5, c6, c7, hd1, nn1, rfl⟩ := Ri.open8 (Ri.holds_len HRH.out)
        obtain ⟨d0, d1, d2, d3, d4, d5, d6, d7, hd2, nn2, rfl⟩ := Ri.open8 (Ri.holds_len hr')
        have HPU := Lib.hid hp
        obtain ⟨cv, hcv⟩ : ∃ cv, Value.agg #[.int .i64 c0, .int .i64 c1, .int .i64 c2, .int .i64 c3, .int .i64 c4, .int .i64 c5, .int .i64 c6, .int .i64 c7, .int .i64 hd1, .int .i64 nn1] = cv := ⟨_, rfl⟩
        have HCV := Lib.hid hcv
        clear h1 hlk hp hr' hcv
        go_wp2_with (refine wpList_load_rowM (by rfl) 38 _ rfl BO 0 (by go_simp) (rL ⟨[c0, c1, c2, c3, c4, c5, c6, c7], hd1, nn1⟩) cv HCV.out.symm _ (range_row HB.out) Try.underlying38 rfl (by first | kernel_rfl | (rw [pL_len]; kernel_rfl)) ?_)
        rw [← HCV.out]
        refine (rpush_k c0 c1 c2 c3 c4 c5 c6 c7 hd1 nn1 x d0 d1 d2 d3 d4 d5 d6 d7 hd2 nn2 true HPU.out wr).mono ?_
        rintro e w7 ⟨rfl, hx7⟩
        obtain ⟨w8, hw8⟩ : ∃ w8, w7.setCells BO 0 (rL ⟨[d0, d1, d2, d3, d4, d5, d6, d7], hd2, nn2⟩) = w8 := ⟨_, rfl⟩
        have hb7 := hx7.blk HB.out
        have hu8 : Upd BO w7 w8 := by rw [← hw8]; exact setCells_upd _ _ _ _
        have HT7 : Hid (w7.there BO 0 (rL ⟨[d0, d1, d2, d3, d4, d5, d6, d7], hd2, nn2⟩).length) := Lib.hid (there_row hb7 (Nat.le_refl 10))
        have NB : Hid (w8.heap[BO]? = some (.cells (rL ⟨[d0, d1, d2, d3, d4, d5, d6, d7], hd2, nn2⟩).toArray 38 (0, 0))) := Lib.hid (by rw [← hw8]; exact setCells_at (rL ⟨[c0, c1, c2, c3, c4, c5, c6, c7], hd1, nn1⟩) (rL ⟨[d0, d1, d2, d3, d4, d5, d6, d7], hd2, nn2⟩) rfl hb7)
        have NRB : Hid (w8.heap[RB]? = some (.cells (rL Ri.zero).toArray 38 (0, 0))) := Lib.hid ((hu8.block RB (by have := hx7.size; have := blk_lt HRB.out; omega) (fun e => by injection e; have := HS4.out; omega)).trans (hx7.blk HRB.out))
        have NO : Hid (OwnInts w8 w4.heap.size (.slice (some ⟨bo, oo, none⟩) l.length c) l) := Lib.hid ((HO.out.ext hx7).updB hu8 HS4.out.1)
        have NX : Hid (Ext w w8) := Lib.hid ((HX.out.trans hx7).upd hu8 (by have := HS4.out; omega))
        have HW8 := Lib.hid hw8
        obtain ⟨dv, hdv⟩ : ∃ dv, Value.agg #[.int .i64 d0, .int .i64 d1, .int .i64 d2, .int .i64 d3, .int .i64 d4, .int .i64 d5, .int .i64 d6, .int .i64 d7, .int .i64 hd2, .int .i64 nn2] = dv := ⟨_, rfl⟩
        have HDV := Lib.hid hdv
        rw [hdv]
        clear hx7 hw8 hb7 hu8 hdv
        go_wp2_with (refine wpList_store_rowM rfl 38 _ _ rfl BO 0 (rL ⟨[d0, d1, d2, d3, d4, d5, d6, d7], hd2, nn2⟩) dv (by go_simp) (by go_simp) HDV.out.symm HT7.out (by first | kernel_rfl | (rw [pL_len]; kernel_rfl)) (rL_one _) HW8.out ?_)
        go_roundw
        case rel => exact ⟨k + 1, _, by omega, by go_num, NH.out, NHD.out, NB.out, NRB.out, NO.out, NX.out⟩
        case measure => simp [intOf]; omega
    · obtain rfl : k = l.length := by omega
      have hrh := HRH.out
      rw [List.take_length] at hrh
      have HRF := Lib.hid hrh
      obtain ⟨c0, c1, c2, c3, c4, c5, c6, c7, hd1, nn1, rfl⟩ := Ri.open8 (Ri.holds_len hrh)
      obtain ⟨cv, hcv⟩ : ∃ cv, Value.agg #[.int .i64 c0, .int .i64 c1, .int .i64 c2, .int .i64 c3, .int .i64 c4, .int .i64 c5, .int .i64 c6, .int .i64 c7, .int .i64 hd1, .int .i64 nn1] = cv := ⟨_, rfl⟩
      have HCV := Lib.hid hcv
      obtain ⟨wf, hwf⟩ : ∃ wf, wr.setCells RB 0 (rL ⟨[c0, c1, c2, c3, c4, c5, c6, c7], hd1, nn1⟩) = wf := ⟨_, rfl⟩
      have HTF : Hid (wr.there RB 0 (rL ⟨[c0, c1, c2, c3, c4, c5, c6, c7], hd1, nn1⟩).length) := Lib.hid (there_row HRB.out (Nat.le_refl 10))
      have HFR : Hid (wf.heap[RB]? = some (.cells (rL ⟨[c0, c1, c2, c3, c4, c5, c6, c7], hd1, nn1⟩).toArray 38 (0, 0))) := Lib.hid (by rw [← hwf]; exact setCells_at (rL Ri.zero) (rL ⟨[c0, c1, c2, c3, c4, c5, c6, c7], hd1, nn1⟩) rfl HRB.out)
      have HXF : Hid (Ext w wf) := Lib.hid (by rw [← hwf]; exact HX.out.upd (setCells_upd _ _ _ _) (by have := HS4.out; omega))
      have HWF := Lib.hid hwf
      clear hrh hcv hwf
      go_wp2_with (first | (refine wpList_load_rowM (by rfl) 38 _ rfl BO 0 (by go_simp) (rL ⟨[c0, c1, c2, c3, c4, c5, c6, c7], hd1, nn1⟩) cv HCV.out.symm _ (range_row HB.out) Try.underlying38 rfl (by first | kernel_rfl | (rw [pL_len]; kernel_rfl)) ?_) | (refine wpList_store_rowM rfl 38 _ _ rfl RB 0 (rL ⟨[c0, c1, c2, c3, c4, c5, c6, c7], hd1, nn1⟩) cv (by go_simp) (by go_simp) HCV.out.symm HTF.out (by first | kernel_rfl | (rw [pL_len]; kernel_rfl)) (rL_one _) HWF.out ?_))
      refine bodyPost_ret (v := .agg (rL ⟨[c0, c1, c2, c3, c4, c5, c6, c7], hd1, nn1⟩).toArray) (results_cell_row rfl _ _ RB _ _ _ _ rfl HFR.out Try.underlying38 rfl (by kernel_rfl)) rfl ⟨_, rfl, HRF.out, HRD.out, HXF.out⟩
end Go.Proofs.Ytogcfndhcphpaaa
namespace Go.Proofs.Ytogcfndhcphpaaa
open Go.RowKit
namespace St
def dropP (g : Int) (p : Pr) : Pr := { p with next := if p.next = g then 0 else p.next, ring := Ri.at' p.ring.head.toNat (p.ring.list.filter (· != g)) }
def drop1 (s : St) (g : Int) : St := { s with ps := s.ps.map (dropP g), glob := s.glob.filter (· != g) }
def dropK (s : St) (g : Int) (k : Nat) : St := { s with ps := (s.ps.take k).map (dropP g) ++ s.ps.drop k }
theorem dropK_get {s : St} {g : Int} {k : Nat} {p : Pr} (h : s.ps[k]? = some p) : (s.dropK g k).ps[k]? = some p ∧ (s.dropK g (k + 1)).ps = (s.dropK g k).ps.set k (dropP g p) := by
  have hl := (List.getElem?_eq_some_iff.1 h).1
  have hlen : ((s.ps.take k).map (dropP g)).length = k := by rw [List.length_map, List.length_take]; omega
  unfold dropK
  simp only
  refine ⟨by rw [List.getElem?_append_right (by omega), hlen, Nat.sub_self, List.getElem?_drop, Nat.add_zero]; exact h, ?_⟩
  rw [List.set_append_right _ _ (by omega), hlen, Nat.sub_self, List.take_add_one, h, List.map_append, drop_next h, List.set_cons_zero, List.append_assoc]
  rfl
theorem dropK_len {s : St} {g : Int} {k : Nat} : (s.dropK g k).ps.length = s.ps.length := by
  unfold dropK
  simp only [List.length_append, List.length_map, List.length_take, List.length_drop]
  omega
theorem dropP_ring {p : Pr} {g : Int} (hb : p.ring.buf.length = 8) (hm : p.ring.may = true) : (Ri.at' p.ring.head.toNat (p.ring.list.filter (· != g))).Holds (p.ring.list.filter (· != g)) ∧ (Ri.at' p.ring.head.toNat (p.ring.list.filter (· != g))).head = p.ring.head := by
  have hh := Ri.holds_may hb hm
  have hn := Ri.holds_n hh
  have hpos := Ri.holds_pos hh
  obtain ⟨a, b, d1, d2, d3, _⟩ := hh
  exact ⟨Ri.at_holds (by omega) (Nat.le_trans (List.length_filter_le _ _) hn.2) (fun x hx => hpos x (List.mem_filter.1 hx).1), by show ((p.ring.head.toNat : Nat) : Int) = p.ring.head; omega⟩
theorem drop1_good {s : St} (h : StGood s) (hm : ∀ p ∈ s.ps, p.ring.may = true) (g : Int) : StGood (s.drop1 g) := by
  have hf := h.few
  refine ⟨⟨hf.prog, hf.gs, by show (s.ps.map _).length ≤ _; rw [List.length_map]; exact hf.ps, hf.ms, Nat.le_trans (List.length_filter_le _ _) hf.glob, hf.w, hf.timers, hf.tnum⟩, fun p hp => ?_, h.tim⟩
  obtain ⟨q, hq, rfl⟩ := List.mem_map.1 hp
  exact Ri.holds_len (dropP_ring (h.buf q hq) (hm q hq)).1
end St
theorem givesV_PY {P : Program} {v : Value} {w : World} {r : Result Next} (h : GivesP v w r) : GivesV P (fun w' => w' = w) v r := by
  obtain ⟨h⟩ := h
  unfold GivesP' at h
  unfold GivesV
  split at h <;> simp_all
theorem skip_storeY {P : Program} {o : Oper} {a : Act} {w : World} (ty : TypeId) (x y : Operand) (ho : o.op = .store ty x y) (b off : Nat) (hx : a.eval x = .pointer (some ⟨b, off, none⟩)) (ds : List Value) (hy : a.eval y = .agg ds.toArray)
    (ht : w.there b off ds.length) (hi : (P.info? ty).map (·.size) = some ds.length) (h1 : ∀ u ∈ ds, u.oneCell' = true) : (execOp a.eval o).run P w = .ok .skip (w.setCells b off ds) := by
  unfold execOp
  simp only [ho, hx, hy, Instr.storeAt, Instr.sureAddr, Sem.run_bind, Sem.run_pure, Result.andThen_ok, run_storeVar_mid w b off ty ds.toArray (by simpa using ht) (by simpa using hi) (all_oneCell_toArray h1)]
def StartR (w : World) (s : St) (p g : Int) (e : Ending) (w' : World) : Prop :=
  ((s.looks p = false ∨ g < 1 ∨ (s.gs.length : Int) < g ∨ ∃ (k : Nat) (y : Gr), g = (k : Int) + 1 ∧ s.gs[k]? = some y ∧ y.st ≠ 1) ∧ e = .returned (.tuple #[stV StH.nil St.nil, .int .i64 1]) ∧ Ext w w') ∨
  ∃ (i j k : Nat) (x : Pr) (y : Gr) (h' : StH), p = (i : Int) + 1 ∧ g = (k : Int) + 1 ∧ St.Idle s i j x ∧ s.gs[k]? = some y ∧ y.st = 1 ∧ e = .returned (.tuple #[stV h' ((s.drop1 g).runG p g), .int .i64 0]) ∧ StOk w' h' ((s.drop1 g).runG p g) ∧ Ext w w'
set_option maxRecDepth 100000 in
set_option maxHeartbeats 32000000 in
theorem fStart_any (h : StH) (s : St) (p g : Int) (w : World) (hk : StOk w h s) (hg : StGood s) : Calls Try.prog 37 #[stV h s, .int .i64 p, .int .i64 g] w (StartR w s p g) := by
  have hf := hg.few
  have HSG := Lib.hid hg
  clear hg
  have HF := Lib.hid hf
  have HK := Lib.hid hk
  obtain ⟨W0, hW0⟩ : ∃ W0, w.heap.size = W0 := ⟨_, rfl⟩
  obtain ⟨G0, hG0⟩ : ∃ G0, W0 + 1 = G0 := ⟨_, rfl⟩
  obtain ⟨R, hR⟩ : ∃ R, G0 + 1 = R := ⟨_, rfl⟩
  obtain ⟨w2, hw2⟩ : ∃ w2, ((w.alloc (.cells #[.slice h.pa s.prog.length h.pc, .slice h.ga s.gs.length h.gc, .slice h.qa s.ps.length h.qc, .slice h.ma s.ms.length h.mc, .slice h.la s.glob.length h.lc, .int .i64 s.c0, .int .i64 s.c1, .int .i64 s.c2, .int .i64 s.c3, .slice h.a0 s.w0.length h.k0, .slice h.a1 s.w1.length h.k1, .slice h.a2 s.w2.length h.k2, .slice h.a3 s.w3.length h.k3, .slice h.ta s.timers.length h.tc, .int .i64 s.clock, .int .i64 s.procs] 32)).alloc (.cells #[.int .i64 g] 3)).alloc (.cells #[.slice none 0 0, .slice none 0 0, .slice none 0 0, .slice none 0 0, .slice none 0 0, .int .i64 0, .int .i64 0, .int .i64 0, .int .i64 0, .slice none 0 0, .slice none 0 0, .slice none 0 0, .slice none 0 0, .slice none 0 0, .int .i64 0, .int .i64 0] 32) = w2 := ⟨_, rfl⟩
  have HX1 : Hid (Ext w w2) := Lib.hid (by rw [← hw2]; exact (((Ext.refl w).alloc _).alloc _).alloc _)
  have HB1 : Hid (w2.heap[W0]? = some (.cells (stC h s) 32 (0, 0))) := Lib.hid (by rw [← hw2, ← hW0]; exact blk_alloc (blk_alloc (blk_new w _) _) _)
  have HG1 : Hid (w2.heap[G0]? = some (.cells #[.int .i64 g] 3 (0, 0))) := Lib.hid (by
    have := blk_alloc (blk_new (w.alloc (.cells #[.slice h.pa s.prog.length h.pc, .slice h.ga s.gs.length h.gc, .slice h.qa s.ps.length h.qc, .slice h.ma s.ms.length h.mc, .slice h.la s.glob.length h.lc, .int .i64 s.c0, .int .i64 s.c1, .int .i64 s.c2, .int .i64 s.c3, .slice h.a0 s.w0.length h.k0, .slice h.a1 s.w1.length h.k1, .slice h.a2 s.w2.length h.k2, .slice h.a3 s.w3.length h.k3, .slice h.ta s.timers.length h.tc, .int .i64 s.clock, .int .i64 s.procs] 32)) (.cells #[.int .i64 g] 3)) (.cells #[.slice none 0 0, .slice none 0 0, .slice none 0 0, .slice none 0 0, .slice none 0 0, .int .i64 0, .int .i64 0, .int .i64 0, .int .i64 0, .slice none 0 0, .slice none 0 0, .slice none 0 0, .slice none 0 0, .slice none 0 0, .int .i64 0, .int .i64 0] 32)
    rw [hw2, World.size_alloc, hW0, hG0] at this
    exact this)
  have HR1 : Hid (w2.heap[R]? = some (.cells #[.slice none 0 0, .slice none 0 0, .slice none 0 0, .slice none 0 0, .slice none 0 0, .int .i64 0, .int .i64 0, .int .i64 0, .int .i64 0, .slice none 0 0, .slice none 0 0, .slice none 0 0, .slice none 0 0, .slice none 0 0, .int .i64 0, .int .i64 0] 32 (0, 0))) := Lib.hid (by
    have := blk_new ((w.alloc (.cells #[.slice h.pa s.prog.length h.pc, .slice h.ga s.gs.length h.gc, .slice h.qa s.ps.length h.qc, .slice h.ma s.ms.length h.mc, .slice h.la s.glob.length h.lc, .int .i64 s.c0, .int .i64 s.c1, .int .i64 s.c2, .int .i64 s.c3, .slice h.a0 s.w0.length h.k0, .slice h.a1 s.w1.length h.k1, .slice h.a2 s.w2.length h.k2, .slice h.a3 s.w3.length h.k3, .slice h.ta s.timers.length h.tc, .int .i64 s.clock, .int .i64 s.procs] 32)).alloc (.cells #[.int .i64 g] 3)) (.cells #[.slice none 0 0, .slice none 0 0, .slice none 0 0, .slice none 0 0, .slice none 0 0, .int .i64 0, .int .i64 0, .int .i64 0, .int .i64 0, .slice none 0 0, .slice none 0 0, .slice none 0 0, .slice none 0 0, .slice none 0 0, .int .i64 0, .int .i64 0] 32)
    rw [hw2, World.size_alloc, World.size_alloc, hW0, hG0, hR] at this
    exact this)
  have HRR := Lib.hid hR
  have HG0 := Lib.hid hG0
  have HW0 := Lib.hid hW0
  have HW2 := Lib.hid hw2
  have HK1 := Lib.hid (hk.ext HX1.out)
  clear hk hf hw2 hW0 hR hG0
  obtain ⟨PQ, hPQ⟩ : ∃ PQ : Ending → World → Prop, PQ = StartR w s p g := ⟨_, rfl⟩
  rw [← hPQ]
  have HPQ := Lib.hid hPQ
  clear hPQ
  unfold stV
  go_enter Try.func37, Try.ntmps37
  go_upto_region 1 with fail
  rw [HW2.out, HW0.out, HG0.out, HRR.out]
  generalize Value.agg #[.slice h.pa s.prog.length h.pc, .slice h.ga s.gs.length h.gc, .slice h.qa s.ps.length h.qc, .slice h.ma s.ms.length h.mc, .slice h.la s.glob.length h.lc, .int .i64 s.c0, .int .i64 s.c1, .int .i64 s.c2, .int .i64 s.c3, .slice h.a0 s.w0.length h.k0, .slice h.a1 s.w1.length h.k1, .slice h.a2 s.w2.length h.k2, .slice h.a3 s.w3.length h.k3, .slice h.ta s.timers.length h.tc, .int .i64 s.clock, .int .i64 s.procs] = sv0
  go_wp2_with (refine wpList_load_rowW (by rfl) 32 _ rfl W0 (by go_simp) (stL h s) (stV h s) rfl _ (range_row HB1.out) Try.underlying32 rfl (by kernel_rfl) ?_)
  refine (flooks_any h s p _ rfl w2 HK1.out HF.out).mono ?_
  rintro e wa ⟨rfl, hxa⟩
  have HXA := Lib.hid (HX1.out.trans hxa)
  have HBA := Lib.hid (hxa.blk HB1.out)
  have HGA := Lib.hid (hxa.blk HG1.out)
  have HRA := Lib.hid (hxa.blk HR1.out)
  clear hxa
  cases bl : s.looks p with
  | false =>
    have HN := Lib.hid bl
    clear bl
    go_upto_if 34 with fail
    obtain ⟨wf, hwf⟩ : ∃ wf, wa.setCells R 0 (stL StH.nil St.nil) = wf := ⟨_, rfl⟩
    have hfn := fin_nil HRA.out HXA.out (show w.heap.size ≤ R by have := HRR.out; have := HG0.out; have := HW0.out; omega)
    rw [hwf] at hfn
    have HFN := Lib.hid hfn
    have HWF := Lib.hid hwf
    clear hfn hwf
    go_wp2_with (refine wpList_store_row rfl 32 _ _ rfl R (stL StH.nil St.nil) (stV StH.nil St.nil) rfl rfl rfl HFN.out.2.1 (by kernel_rfl) (stL_one _ _) HWF.out ?_)
    refine bodyPost_cell_tmp rfl R _ _ _ _ rfl HFN.out.1 Try.underlying32 rfl (by kernel_rfl) (.int .i64 1) rfl rfl ?_
    rw [HPQ.out]
    exact .inl ⟨.inl HN.out, rfl, HFN.out.2.2⟩
  | true =>
  obtain ⟨i, j, x, rfl, hi⟩ := St.looks_iff.1 bl
  have HI := Lib.hid hi
  clear hi bl
  have q1 := st1 HBA.out
  have qg := blk_cell HGA.out 0 _ rfl
  by_cases a1 : g < 1
  · have HN := Lib.hid a1
    go_upto_if 34 with fail
    clear q1 qg a1
    obtain ⟨wf, hwf⟩ : ∃ wf, wa.setCells R 0 (stL StH.nil St.nil) = wf := ⟨_, rfl⟩
    have hfn := fin_nil HRA.out HXA.out (show w.heap.size ≤ R by have := HRR.out; have := HG0.out; have := HW0.out; omega)
    rw [hwf] at hfn
    have HFN := Lib.hid hfn
    have HWF := Lib.hid hwf
    clear hfn hwf
    go_wp2_with (refine wpList_store_row rfl 32 _ _ rfl R (stL StH.nil St.nil) (stV StH.nil St.nil) rfl rfl rfl HFN.out.2.1 (by kernel_rfl) (stL_one _ _) HWF.out ?_)
    refine bodyPost_cell_tmp rfl R _ _ _ _ rfl HFN.out.1 Try.underlying32 rfl (by kernel_rfl) (.int .i64 1) rfl rfl ?_
    rw [HPQ.out]
    exact .inl ⟨.inr (.inl HN.out), rfl, HFN.out.2.2⟩
  by_cases a2 : (s.gs.length : Int) < g
  · have HN := Lib.hid a2
    go_upto_if 34 with fail
    clear q1 qg a1 a2
    obtain ⟨wf, hwf⟩ : ∃ wf, wa.setCells R 0 (stL StH.nil St.nil) = wf := ⟨_, rfl⟩
    have hfn := fin_nil HRA.out HXA.out (show w.heap.size ≤ R by have := HRR.out; have := HG0.out; have := HW0.out; omega)
    rw [hwf] at hfn
    have HFN := Lib.hid hfn
    have HWF := Lib.hid hwf
    clear hfn hwf
    go_wp2_with (refine wpList_store_row rfl 32 _ _ rfl R (stL StH.nil St.nil) (stV StH.nil St.nil) rfl rfl rfl HFN.out.2.1 (by kernel_rfl) (stL_one _ _) HWF.out ?_)
    refine bodyPost_cell_tmp rfl R _ _ _ _ rfl HFN.out.1 Try.underlying32 rfl (by kernel_rfl) (.int .i64 1) rfl rfl ?_
    rw [HPQ.out]
    exact .inl ⟨.inr (.inr (.inl HN.out)), rfl, HFN.out.2.2⟩
  obtain ⟨k, hgk⟩ : ∃ k : Nat, g = (k : Int) + 1 := ⟨(g - 1).toNat, by omega⟩
  obtain ⟨y, hy⟩ : ∃ y, s.gs[k]? = some y := ⟨_, List.getElem?_eq_getElem (by omega)⟩
  have HGK := Lib.hid hgk
  have HY := Lib.hid hy
  have e1 : g - 1 = (k : Int) := by omega
  have e4 : (k : Int) < (s.gs.length : Int) := by omega
  have e5 : (k : Int) < 100000 := by have := HF.out.gs; omega
  have e6 : (1 : Int) ≤ g := by omega
  have e7 : g ≤ 100001 := by omega
  obtain ⟨bg, og, hga, hgb, _, _, p2, _⟩ := gs_get ((HK.out.ext HXA.out).gs) hy
  rw [hga] at q1
  clear hgk hy hga hgb
  by_cases a3 : y.st = 1
  case neg =>
    have a3' : (y.st != 1) = true := by simpa using a3
    have HN := Lib.hid a3
    clear a3
    go_upto_if 34 with fail
    clear q1 qg a1 a2 a3' e1 e4 e5 e6 e7 p2
    obtain ⟨wf, hwf⟩ : ∃ wf, wa.setCells R 0 (stL StH.nil St.nil) = wf := ⟨_, rfl⟩
    have hfn := fin_nil HRA.out HXA.out (show w.heap.size ≤ R by have := HRR.out; have := HG0.out; have := HW0.out; omega)
    rw [hwf] at hfn
    have HFN := Lib.hid hfn
    have HWF := Lib.hid hwf
    clear hfn hwf
    go_wp2_with (refine wpList_store_row rfl 32 _ _ rfl R (stL StH.nil St.nil) (stV StH.nil St.nil) rfl rfl rfl HFN.out.2.1 (by kernel_rfl) (stL_one _ _) HWF.out ?_)
    refine bodyPost_cell_tmp rfl R _ _ _ _ rfl HFN.out.1 Try.underlying32 rfl (by kernel_rfl) (.int .i64 1) rfl rfl ?_
    rw [HPQ.out]
    exact .inl ⟨.inr (.inr (.inr ⟨k, y, HGK.out, HY.out, HN.out⟩)), rfl, HFN.out.2.2⟩
  have a3' : (y.st != 1) = false := by simpa using a3
  have HST := Lib.hid a3
  clear a3
  have d1 : decide (g < 1) = false := decide_eq_false a1
  have d2 : decide ((s.gs.length : Int) < g) = false := decide_eq_false a2
  go_upto_region 3 with fail
  clear q1 qg a1 a2 a3' e1 e4 e5 e6 e7 p2 d1 d2
  go_wp2_with (refine wpList_load_rowW (by rfl) 32 _ rfl W0 (by go_simp) (stL h s) (stV h s) rfl _ (range_row HBA.out) Try.underlying32 rfl (by kernel_rfl) ?_)
  refine (sCopy_any h s wa (HK.out.ext HXA.out) HF.out).mono ?_
  rintro e w3 ⟨h1, L, rfl, ho, hL, hx⟩
  obtain ⟨w4, hw4⟩ : ∃ w4, w3.setCells W0 0 (stL h1 s) = w4 := ⟨_, rfl⟩
  have hst := Sit.start (w := w) rfl HXA.out HBA.out HRA.out hx (ho.apart hL) (by have := HRR.out; have := HG0.out; omega) (by have := HW0.out; omega) (by have := HW0.out; have := HG0.out; have := HRR.out; omega)
  rw [hw4] at hst
  have hu4 : Upd W0 w3 w4 := by rw [← hw4]; exact setCells_upd _ _ _ _
  have HGL : Hid (G0 < wa.heap.size) := Lib.hid (blk_lt HGA.out)
  have HG4 : Hid (w4.heap[G0]? = some (.cells #[.int .i64 g] 3 (0, 0))) := Lib.hid ((hu4.block G0 (by have := hx.size; have := HGL.out; omega) (fun e => by injection e; have := HG0.out; omega)).trans (hx.blk HGA.out))
  have HTH := Lib.hid hst.1
  have S4 := Lib.hid hst.2
  have HW4 := Lib.hid hw4
  clear ho hL hx hst hw4 hu4
  go_upto_region 4 with (refine wpList_store_row rfl 32 _ _ rfl W0 (stL h1 s) (stV h1 s) (by go_simp) (by go_simp) rfl HTH.out (by kernel_rfl) (stL_one _ _) HW4.out ?_)
  have q2 := st2 S4.out.box
  go_wp2_with fail
  clear q2
  go_loopw [41] (fun iv wr => ∃ m : Nat, m ≤ s.ps.length ∧ iv = .int .i64 m ∧ Sit w W0 R wa.heap.size wr h1 (s.dropK g m) ∧ wr.heap[G0]? = some (.cells #[.int .i64 g] 3 (0, 0))) (fun iv _ => s.ps.length - (intOf iv).toNat)
  case atStart => exact ⟨0, by omega, rfl, by have : s.dropK g 0 = s := rfl; rw [this]; exact S4.out, HG4.out⟩
  case round =>
    obtain ⟨m, hm, rfl, hsm, hgm⟩ := hrel
    have SM := Lib.hid hsm
    have HGM := Lib.hid hgm
    clear hsm hgm
    by_cases hlt : m < s.ps.length
    · obtain ⟨px, hp⟩ : ∃ px, s.ps[m]? = some px := ⟨_, List.getElem?_eq_getElem hlt⟩
      have hb8 := HK.out.buf px (List.mem_of_getElem? hp)
      have hrm := St.may_ring HI.out.may hp
      obtain ⟨hpk, hps1⟩ := St.dropK_get (g := g) hp
      have hdr := St.dropP_ring (g := g) hb8 hrm
      have hhr := Ri.holds_may hb8 hrm
      obtain ⟨pm, nx, r0, sq⟩ := px
      obtain ⟨b0, b1, b2, b3, b4, b5, b6, b7, hd, nn, rfl⟩ := Ri.open8 hb8
      obtain ⟨rr, hrr⟩ : ∃ rr, Ri.at' (Ri.head ⟨[b0, b1, b2, b3, b4, b5, b6, b7], hd, nn⟩).toNat ((Ri.list ⟨[b0, b1, b2, b3, b4, b5, b6, b7], hd, nn⟩).filter (· != g)) = rr := ⟨_, rfl⟩
      simp only at hdr
      rw [show Ri.at' hd.toNat ((Ri.list ⟨[b0, b1, b2, b3, b4, b5, b6, b7], hd, nn⟩).filter (· != g)) = rr from hrr] at hdr
      obtain ⟨sm, hsm⟩ : ∃ sm, s.dropK g m = sm := ⟨_, rfl⟩
      have HPK : Hid (sm.ps[m]? = some ⟨pm, nx, ⟨[b0, b1, b2, b3, b4, b5, b6, b7], hd, nn⟩, sq⟩) := Lib.hid (by rw [← hsm]; exact hpk)
      have HSN : Hid (∀ nx', (if nx = g then 0 else nx) = nx' → s.dropK g (m + 1) = { sm with ps := sm.ps.set m ⟨pm, nx', rr, sq⟩ }) := Lib.hid (fun nx' hnx => by
        have e : St.dropP g ⟨pm, nx, ⟨[b0, b1, b2, b3, b4, b5, b6, b7], hd, nn⟩, sq⟩ = ⟨pm, nx', rr, sq⟩ := by unfold St.dropP; simp only; rw [hnx]; congr 1
        rw [← e, ← hsm, ← hps1]
        rfl)
      have HSL : Hid (sm.ps.length = s.ps.length) := Lib.hid (by rw [← hsm]; exact St.dropK_len)
      have HDR := Lib.hid hdr
      have HHR := Lib.hid hhr
      rw [hsm] at SM
      obtain ⟨bq, hqa, hqB, hqr⟩ := SM.out.getP HPK.out
      have HQA := Lib.hid hqa
      have q2 : wr.cell? ⟨W0, 2, none⟩ = some (.slice (some ⟨bq, 0, none⟩) s.ps.length h1.qc) := by rw [← hqa, ← HSL.out]; exact st2 SM.out.box
      have c1 : wr.cell? ⟨bq, m * 13 + 1, none⟩ = some (.int .i64 nx) := hqr 1 _ rfl
      have qg := blk_cell HGM.out 0 _ rfl
      have e1 : (m : Int) < (s.ps.length : Int) := by omega
      have e2 : (m : Int) < 100000 := by have := HF.out.ps; omega
      clear hp hb8 hrm hpk hps1 hdr hhr hrr hsm hqa hqB hqr
      go_upto_region 8 with fail
      clear q2
      have HBQ : Hid (wa.heap.size ≤ bq) := Lib.hid (by obtain ⟨g', h1', h2', _⟩ := SM.out.getP HPK.out; rw [HQA.out] at h1'; simp only [Option.some.injEq, Addr.mk.injEq, and_true] at h1'; omega)
      by_cases hng : nx = g
      · have hc : (nx == g) = true := by simpa using hng
        have HSN2 : Hid (s.dropK g (m + 1) = { { sm with ps := sm.ps.set m ⟨pm, 0, ⟨[b0, b1, b2, b3, b4, b5, b6, b7], hd, nn⟩, sq⟩ } with ps := (sm.ps.set m ⟨pm, 0, ⟨[b0, b1, b2, b3, b4, b5, b6, b7], hd, nn⟩, sq⟩).set m ⟨pm, 0, rr, sq⟩ }) := Lib.hid (by rw [List.set_set]; exact HSN.out 0 (by rw [if_pos hng]))
        have HP5 : Hid (({ sm with ps := sm.ps.set m ⟨pm, 0, ⟨[b0, b1, b2, b3, b4, b5, b6, b7], hd, nn⟩, sq⟩ } : St).ps[m]? = some ⟨pm, 0, ⟨[b0, b1, b2, b3, b4, b5, b6, b7], hd, nn⟩, sq⟩) := Lib.hid (List.getElem?_set_self (List.getElem?_eq_some_iff.1 HPK.out).1)
        clear hng
        go_quiet (fail)
        obtain ⟨wz, hwz⟩ : ∃ wz, wr.drewN nq = wz := ⟨_, rfl⟩
        rw [hwz]
        have hxz : Ext wr wz := by rw [← hwz]; exact (Ext.refl wr).drewN _
        have hsz := (SM.out.more hxz).setP' HPK.out HQA.out (x' := ⟨pm, 0, ⟨[b0, b1, b2, b3, b4, b5, b6, b7], hd, nn⟩, sq⟩) (j := 1) (ds := [.int .i64 0]) (by show 2 ≤ 13; omega) (pL_next ⟨pm, nx, ⟨[b0, b1, b2, b3, b4, b5, b6, b7], hd, nn⟩, sq⟩ 0)
        have c2 : wz.cell? ⟨bq, m * 13 + 1, none⟩ = some (.int .i64 nx) := ((SM.out.more hxz).getP' HPK.out HQA.out) 1 _ rfl
        have f1 := (hsz.1 0 (by simp)).2
        rw [Nat.add_zero] at f1
        obtain ⟨w5, hw5⟩ : ∃ w5, wz.setCell ⟨bq, m * 13 + 1, none⟩ (.int .i64 0) = w5 := ⟨_, rfl⟩
        have S5 : Hid (Sit w W0 R wa.heap.size w5 h1 { sm with ps := sm.ps.set m ⟨pm, 0, ⟨[b0, b1, b2, b3, b4, b5, b6, b7], hd, nn⟩, sq⟩ }) := Lib.hid (by rw [← hw5]; exact hsz.2)
        have HG5 : Hid (w5.heap[G0]? = some (.cells #[.int .i64 g] 3 (0, 0))) := Lib.hid (by rw [← hw5]; exact blk_set_other (hxz.blk HGM.out) _ (by have := HBQ.out; have := HGL.out; simp only; omega) _)
        have HW5 := Lib.hid hw5
        clear c1 qg hc hwz hxz hsz hw5
        go_upto_region 10 with (rw [HW5.out])
        clear c2 f1
        have HGR : Hid (w5.heap[G0]? = some (.cells #[.int .i64 g] 3 (0, 0))) := Lib.hid HG5.out
        obtain ⟨rvv, hrvv⟩ : ∃ rvv, Value.agg (rL rr).toArray = rvv := ⟨_, rfl⟩
        have HRVV := Lib.hid hrvv
        have HRR8 : Hid (rr.buf.length = 8) := Lib.hid (Ri.holds_len HDR.out.1)
        clear hrvv
        go_wp2_with fail
        refine region_g 9 (fun v => Ext w5 v) (fun v => Ext w5 v) (by kernel_rfl) (Ext.refl _).drew ?_
        have HG : ∀ (l : Array Bool) v, Ext w5 v → l.getD 9 false = false → Ext w5 v := fun _ _ h _ => h
        have K0 : ∀ v, Ext w5 v → v.cell? ⟨G0, 0, none⟩ = some (.int .i64 g) := fun v hv => blk_cell (hv.blk HGR.out) 0 _ rfl
        refine g_take (HG _) (i := 0) (v := ?_) rfl (by kernel_rfl) (by kernel_rfl) (by kernel_rfl) (by kernel_rfl) (by kernel_rfl) (fun _ _ _ h => h) (Still.yes (by kernel_rfl) fun w hS => ?_) ?_
        rotate_left 1
        · skip
          go_simp
          refine gives_mk ?_ rfl
          with_reducible rfl
        refine g_take (HG _) (i := 1) (v := ?_) rfl (by kernel_rfl) (by kernel_rfl) (by kernel_rfl) (by kernel_rfl) (by kernel_rfl) (fun _ _ _ h => h) (Still.yes (by kernel_rfl) fun w hS => ?_) ?_
        rotate_left 1
        · skip
          go_simp
          refine gives_mk ?_ rfl
          with_reducible rfl
        refine g_take (HG _) (i := 2) (v := ?_) rfl (by kernel_rfl) (by kernel_rfl) (by kernel_rfl) (by kernel_rfl) (by kernel_rfl) (fun _ _ _ h => h) (Still.yes (by kernel_rfl) fun w hS => ?_) ?_
        rotate_left 1
        · skip
          go_simp
          refine gives_mk ?_ rfl
          with_reducible rfl
        refine g_take (HG _) (i := 3) (v := ?_) rfl (by kernel_rfl) (by kernel_rfl) (by kernel_rfl) (by kernel_rfl) (by kernel_rfl) (fun _ _ _ h => h) (Still.yes (by kernel_rfl) fun w hS => ?_) ?_
        rotate_left 1
        · skip
          go_simp
          refine gives_mk ?_ rfl
          with_reducible rfl
        refine g_take (HG _) (i := 4) (v := .agg #[.int .i64 b0, .int .i64 b1, .int .i64 b2, .int .i64 b3, .int .i64 b4, .int .i64 b5, .int .i64 b6, .int .i64 b7, .int .i64 hd, .int .i64 nn]) rfl (by kernel_rfl) (by kernel_rfl) (by kernel_rfl) (by kernel_rfl) (by kernel_rfl) (fun _ _ _ h => h) (Still.yes (by kernel_rfl) fun w hS => ?_) ?_
        · exact givesV_PY (givesP_loadM 38 _ rfl bq (m * 13 + 2) (by go_simp) (rL ⟨[b0, b1, b2, b3, b4, b5, b6, b7], hd, nn⟩) _ rfl _ (range_ring ((S5.out.more hS).getP' HP5.out HQA.out)) Try.underlying38 rfl (by kernel_rfl))
        refine g_take (HG _) (i := 5) (v := ?_) rfl (by kernel_rfl) (by kernel_rfl) (by kernel_rfl) (by kernel_rfl) (by kernel_rfl) (fun _ _ _ h => h) (Still.yes (by kernel_rfl) fun w hS => ?_) ?_
        rotate_left 1
        · have c0 := K0 w hS
          go_simp
          refine gives_mk ?_ rfl
          with_reducible rfl
        refine g_turn (fun u w => u = rvv ∧ Ext w5 w) (k := 6) (by kernel_rfl) (fun _ _ h _ => h.2) (fun v hv => ?_)
        refine at_call (S := fun _ => True) rfl (by kernel_rfl) (by go_simp) ((fwithout_any b0 b1 b2 b3 b4 b5 b6 b7 hd nn g _ HHR.out v).mono ?_) ?_
        · rintro e w' ⟨r', rfl, hh', hd', hx⟩
          obtain rfl := Ri.holds_same hh' HDR.out.1 (hd'.trans HDR.out.2.symm)
          exact ⟨_, rfl, HRVV.out, hv.trans hx⟩
        rintro u ⟨_, rfl, _⟩
        refine g_take (fun _ h _ => h.2) (i := 7) (v := ?_) rfl (by kernel_rfl) (by kernel_rfl) (by kernel_rfl) (by kernel_rfl) (by kernel_rfl) (fun _ _ _ h => h) (Still.yes (by kernel_rfl) fun w hS => ?_) ?_
        rotate_left 1
        · go_simp
          refine gives_mk ?_ rfl
          with_reducible rfl
        refine g_take (fun _ h _ => h.2) (i := 8) (v := ?_) rfl (by kernel_rfl) (by kernel_rfl) (by kernel_rfl) (by kernel_rfl) (by kernel_rfl) (fun _ _ _ h => h) (Still.yes (by kernel_rfl) fun w hS => ?_) ?_
        rotate_left 1
        · go_simp
          refine gives_mk ?_ rfl
          with_reducible rfl
        refine g_turn (fun _ w' => Sit w W0 R wa.heap.size w' h1 { ({ sm with ps := sm.ps.set m ⟨pm, 0, ⟨[b0, b1, b2, b3, b4, b5, b6, b7], hd, nn⟩, sq⟩ } : St) with ps := (({ sm with ps := sm.ps.set m ⟨pm, 0, ⟨[b0, b1, b2, b3, b4, b5, b6, b7], hd, nn⟩, sq⟩ } : St)).ps.set m ⟨pm, 0, rr, sq⟩ } ∧ w'.heap[G0]? = some (.cells #[.int .i64 g] 3 (0, 0))) (k := 9) (by kernel_rfl) (fun _ _ _ hz => absurd hz (by decide +kernel)) (fun v hv => ?_)
        refine at_skip rfl (by kernel_rfl) ?_ ?_
        · have hst := (S5.out.more hv.2).setP' HP5.out HQA.out (x' := ⟨pm, 0, rr, sq⟩) (j := 2) (ds := rL rr) (by rw [rL_len HRR8.out]; decide) (pL_ring (x := ⟨pm, 0, ⟨[b0, b1, b2, b3, b4, b5, b6, b7], hd, nn⟩, sq⟩) rfl HRR8.out)
          have hu := setCells_upd bq (rL rr) v (m * 13 + 2)
          exact ⟨_, skip_storeY 38 _ _ rfl bq (m * 13 + 2) (by go_simp) (rL rr) (by go_simp; exact HRVV.out.symm) hst.1 (by rw [rL_len HRR8.out]; kernel_rfl) (rL_one _), hst.2, (hu.block G0 (by have := hv.2.size; have := blk_lt HGR.out; omega) (fun e => by injection e; have := HBQ.out; have := HGL.out; omega)).trans (hv.2.blk HGR.out)⟩
        refine g_done (by kernel_rfl) ?_ _
        rintro w9 ⟨hst, hgb⟩
        have NS : Hid (Sit w W0 R wa.heap.size w9 h1 (s.dropK g (m + 1))) := Lib.hid (by rw [HSN2.out]; exact hst)
        have NG := Lib.hid hgb
        clear hst hgb HG K0
        go_simp
        go_wp2
        go_roundw
        case rel => exact ⟨m + 1, by omega, by go_num, NS.out, NG.out⟩
        case measure => simp [intOf]; omega
      · have hc : (nx == g) = false := by simpa using hng
        have HSN2 : Hid (s.dropK g (m + 1) = { sm with ps := sm.ps.set m ⟨pm, nx, rr, sq⟩ }) := Lib.hid (HSN.out nx (by rw [if_neg hng]))
        clear hng
        go_quiet (fail)
        obtain ⟨wz, hwz⟩ : ∃ wz, wr.drewN nq = wz := ⟨_, rfl⟩
        rw [hwz]
        have hxz : Ext wr wz := by rw [← hwz]; exact (Ext.refl wr).drewN _
        have S5 := Lib.hid (SM.out.more hxz)
        have HG5 := Lib.hid (hxz.blk HGM.out)
        clear c1 qg hc hwz hxz
        go_upto_region 10 with fail
        have HGR : Hid (wz.heap[G0]? = some (.cells #[.int .i64 g] 3 (0, 0))) := Lib.hid HG5.out
        obtain ⟨rvv, hrvv⟩ : ∃ rvv, Value.agg (rL rr).toArray = rvv := ⟨_, rfl⟩
        have HRVV := Lib.hid hrvv
        have HRR8 : Hid (rr.buf.length = 8) := Lib.hid (Ri.holds_len HDR.out.1)
        clear hrvv
        go_wp2_with fail
        refine region_g 9 (fun v => Ext wz v) (fun v => Ext wz v) (by kernel_rfl) (Ext.refl _).drew ?_
        have HG : ∀ (l : Array Bool) v, Ext wz v → l.getD 9 false = false → Ext wz v := fun _ _ h _ => h
        have K0 : ∀ v, Ext wz v → v.cell? ⟨G0, 0, none⟩ = some (.int .i64 g) := fun v hv => blk_cell (hv.blk HGR.out) 0 _ rfl
        refine g_take (HG _) (i := 0) (v := ?_) rfl (by kernel_rfl) (by kernel_rfl) (by kernel_rfl) (by kernel_rfl) (by kernel_rfl) (fun _ _ _ h => h) (Still.yes (by kernel_rfl) fun w hS => ?_) ?_
        rotate_left 1
        · skip
          go_simp
          refine gives_mk ?_ rfl
          with_reducible rfl
        refine g_take (HG _) (i := 1) (v := ?_) rfl (by kernel_rfl) (by kernel_rfl) (by kernel_rfl) (by kernel_rfl) (by kernel_rfl) (fun _ _ _ h => h) (Still.yes (by kernel_rfl) fun w hS => ?_) ?_
        rotate_left 1
        · skip
          go_simp
          refine gives_mk ?_ rfl
          with_reducible rfl
        refine g_take (HG _) (i := 2) (v := ?_) rfl (by kernel_rfl) (by kernel_rfl) (by kernel_rfl) (by kernel_rfl) (by kernel_rfl) (fun _ _ _ h => h) (Still.yes (by kernel_rfl) fun w hS => ?_) ?_
        rotate_left 1
        · skip
          go_simp
          refine gives_mk ?_ rfl
          with_reducible rfl
        refine g_take (HG _) (i := 3) (v := ?_) rfl (by kernel_rfl) (by kernel_rfl) (by kernel_rfl) (by kernel_rfl) (by kernel_rfl) (fun _ _ _ h => h) (Still.yes (by kernel_rfl) fun w hS => ?_) ?_
        rotate_left 1
        · skip
          go_simp
          refine gives_mk ?_ rfl
          with_reducible rfl
        refine g_take (HG _) (i := 4) (v := .agg #[.int .i64 b0, .int .i64 b1, .int .i64 b2, .int .i64 b3, .int .i64 b4, .int .i64 b5, .int .i64 b6, .int .i64 b7, .int .i64 hd, .int .i64 nn]) rfl (by kernel_rfl) (by kernel_rfl) (by kernel_rfl) (by kernel_rfl) (by kernel_rfl) (fun _ _ _ h => h) (Still.yes (by kernel_rfl) fun w hS => ?_) ?_
        · exact givesV_PY (givesP_loadM 38 _ rfl bq (m * 13 + 2) (by go_simp) (rL ⟨[b0, b1, b2, b3, b4, b5, b6, b7], hd, nn⟩) _ rfl _ (range_ring ((S5.out.more hS).getP' HPK.out HQA.out)) Try.underlying38 rfl (by kernel_rfl))
        refine g_take (HG _) (i := 5) (v := ?_) rfl (by kernel_rfl) (by kernel_rfl) (by kernel_rfl) (by kernel_rfl) (by kernel_rfl) (fun _ _ _ h => h) (Still.yes (by kernel_rfl) fun w hS => ?_) ?_
        rotate_left 1
        · have c0 := K0 w hS
          go_simp
          refine gives_mk ?_ rfl
          with_reducible rfl
        refine g_turn (fun u w => u = rvv ∧ Ext wz w) (k := 6) (by kernel_rfl) (fun _ _ h _ => h.2) (fun v hv => ?_)
        refine at_call (S := fun _ => True) rfl (by kernel_rfl) (by go_simp) ((fwithout_any b0 b1 b2 b3 b4 b5 b6 b7 hd nn g _ HHR.out v).mono ?_) ?_
        · rintro e w' ⟨r', rfl, hh', hd', hx⟩
          obtain rfl := Ri.holds_same hh' HDR.out.1 (hd'.trans HDR.out.2.symm)
          exact ⟨_, rfl, HRVV.out, hv.trans hx⟩
        rintro u ⟨_, rfl, _⟩
        refine g_take (fun _ h _ => h.2) (i := 7) (v := ?_) rfl (by kernel_rfl) (by kernel_rfl) (by kernel_rfl) (by kernel_rfl) (by kernel_rfl) (fun _ _ _ h => h) (Still.yes (by kernel_rfl) fun w hS => ?_) ?_
        rotate_left 1
        · go_simp
          refine gives_mk ?_ rfl
          with_reducible rfl
        refine g_take (fun _ h _ => h.2) (i := 8) (v := ?_) rfl (by kernel_rfl) (by kernel_rfl) (by kernel_rfl) (by kernel_rfl) (by kernel_rfl) (fun _ _ _ h => h) (Still.yes (by kernel_rfl) fun w hS => ?_) ?_
        rotate_left 1
        · go_simp
          refine gives_mk ?_ rfl
          with_reducible rfl
        refine g_turn (fun _ w' => Sit w W0 R wa.heap.size w' h1 { sm with ps := (sm).ps.set m ⟨pm, nx, rr, sq⟩ } ∧ w'.heap[G0]? = some (.cells #[.int .i64 g] 3 (0, 0))) (k := 9) (by kernel_rfl) (fun _ _ _ hz => absurd hz (by decide +kernel)) (fun v hv => ?_)
        refine at_skip rfl (by kernel_rfl) ?_ ?_
        · have hst := (S5.out.more hv.2).setP' HPK.out HQA.out (x' := ⟨pm, nx, rr, sq⟩) (j := 2) (ds := rL rr) (by rw [rL_len HRR8.out]; decide) (pL_ring (x := ⟨pm, nx, ⟨[b0, b1, b2, b3, b4, b5, b6, b7], hd, nn⟩, sq⟩) rfl HRR8.out)
          have hu := setCells_upd bq (rL rr) v (m * 13 + 2)
          exact ⟨_, skip_storeY 38 _ _ rfl bq (m * 13 + 2) (by go_simp) (rL rr) (by go_simp; exact HRVV.out.symm) hst.1 (by rw [rL_len HRR8.out]; kernel_rfl) (rL_one _), hst.2, (hu.block G0 (by have := hv.2.size; have := blk_lt HGR.out; omega) (fun e => by injection e; have := HBQ.out; have := HGL.out; omega)).trans (hv.2.blk HGR.out)⟩
        refine g_done (by kernel_rfl) ?_ _
        rintro w9 ⟨hst, hgb⟩
        have NS : Hid (Sit w W0 R wa.heap.size w9 h1 (s.dropK g (m + 1))) := Lib.hid (by rw [HSN2.out]; exact hst)
        have NG := Lib.hid hgb
        clear hst hgb HG K0
        go_simp
        go_wp2
        go_roundw
        case rel => exact ⟨m + 1, by omega, by go_num, NS.out, NG.out⟩
        case measure => simp [intOf]; omega
    · obtain rfl : m = s.ps.length := by omega
      have e0 : s.dropK g s.ps.length = { s with ps := s.ps.map (St.dropP g) } := by unfold St.dropK; rw [List.take_length, List.drop_length, List.append_nil]
      have SM2 : Hid (Sit w W0 R wa.heap.size wr h1 { s with ps := s.ps.map (St.dropP g) }) := Lib.hid (by rw [← e0]; exact SM.out)
      clear e0 SM
      obtain ⟨I4, ha4⟩ := SM2.out.ap
      have hl4 := ha4.low 4 (by omega)
      have q4 : wr.cell? ⟨W0, 4, none⟩ = some (.slice h1.la s.glob.length h1.lc) := by have := st4 SM2.out.box; exact this
      have qg := blk_cell HGM.out 0 _ rfl
      have HD := Lib.hid (fdel_any h1.la h1.lc s.glob g G0 (I4 4).1 wr (ints_rows.1 ha4.glob.1) (by have := HF.out.glob; omega) qg (by have := HGL.out; omega) (by omega))
      have HA4 := Lib.hid ha4
      clear ha4 hl4
      go_wp2_with fail
      refine HD.out.mono ?_
      rintro e wc ⟨rfl, ho', hb⟩
      obtain ⟨sd, hsd⟩ : ∃ sd, s.drop1 g = sd := ⟨_, rfl⟩
      have hst := SM2.out.glob HA4.out (l := s.glob.filter (fun x => x != g)) rfl (ints_rows.2 ho') (.inl (own_len _ _ _ _ _)) hb
      obtain ⟨wd, hwd⟩ : ∃ wd, wc.setCell ⟨W0, 4, none⟩ (.slice h1.la (s.glob.filter (fun x => x != g)).length h1.lc) = wd := ⟨_, rfl⟩
      have r0 : wc.cell? ⟨W0, 4, none⟩ = some (.slice h1.la s.glob.length h1.lc) := hst.1
      have r1 := hst.2.1
      have HSD : Hid (Sit w W0 R wa.heap.size wd h1 sd) := Lib.hid (by rw [← hsd, ← hwd]; exact hst.2.2)
      have hgc : wc.heap[G0]? = some (.cells #[.int .i64 g] 3 (0, 0)) := hb.blk HGM.out (fun e => by
        have h1 := (World.ownsRow.lt HA4.out.glob.1 G0 e).1
        have h2 := (HA4.out.low 4 (by omega)).1
        have := HGL.out
        omega)
      have qg2 : wd.cell? ⟨G0, 0, none⟩ = some (.int .i64 g) := by rw [← hwd]; exact blk_cell (blk_set_other hgc _ (by have := HG0.out; simp only; omega) _) 0 _ rfl
      have HWD := Lib.hid hwd
      have HDD := Lib.hid hsd
      have HL5 : Hid (sd.gs = s.gs ∧ sd.ms = s.ms ∧ sd.ps[i]? = some (St.dropP g x)) := Lib.hid (by rw [← hsd]; exact ⟨rfl, rfl, by show (s.ps.map _)[i]? = _; rw [List.getElem?_map, HI.out.at_]; rfl⟩)
      have HGD : Hid (StGood sd) := Lib.hid (by
        rw [← hsd]
        refine St.drop1_good HSG.out (fun p hp => ?_) g
        obtain ⟨n, hn⟩ := List.mem_iff_getElem?.1 hp
        exact St.may_ring HI.out.may hn)
      have HSQ : Hid (0 ≤ y.seq ∧ y.seq < 4611686018427387904) := Lib.hid (by have := St.may_seq HI.out.may HY.out; omega)
      have HXM : Hid ((St.dropP g x).m = (j : Int) + 1) := Lib.hid HI.out.m
      clear ho' hb hst hgc hwd hsd q4 qg
      go_upto_region 13 with (rw [HWD.out])
      clear r0 r1
      obtain ⟨C, hC⟩ : ∃ C, stL h1 sd = C := ⟨_, rfl⟩
      have HCC := Lib.hid hC
      have S5 : Hid (SitC w W0 R wa.heap.size wd C h1 sd) := Lib.hid (by rw [← hC]; exact SitC.of HSD.out)
      clear hC
      go_wp2_with fail
      clear qg2
      have HRUN := Lib.hid (frun_any W0 R wa.heap.size i j k C h1 sd (St.dropP g x) y ((i : Int) + 1, 0) w wd S5.out (by rw [← HCC.out]; exact ⟨rfl, rfl, rfl⟩) HL5.out.2.2 HXM.out (by rw [HL5.out.2.1]; exact HI.out.hm) (by rw [HL5.out.1]; exact HY.out) HSQ.out HGD.out.few)
      rw [← HGK.out] at HRUN
      refine HRUN.out.mono ?_
      rintro e w6 ⟨rfl, hs6⟩
      have S6 := Lib.hid hs6
      clear hs6 HRUN
      have HCL : Hid (C.length = 16) := Lib.hid (by rw [← HCC.out]; rfl)
      have HSZ : Hid ((Try.prog.info? 32).map (·.size) = some C.length) := Lib.hid (by rw [HCL.out]; kernel_rfl)
      have HC1 : Hid (∀ u ∈ C, u.oneCell' = true) := Lib.hid (by rw [← HCC.out]; exact stL_one _ _)
      obtain ⟨cv, hcv⟩ : ∃ cv, Value.agg C.toArray = cv := ⟨_, rfl⟩
      have HCV := Lib.hid hcv
      obtain ⟨wf, hwf⟩ : ∃ wf, w6.setCells R 0 C = wf := ⟨_, rfl⟩
      have hfi := S6.out.fin HCL.out
      rw [hwf] at hfi
      have HFI := Lib.hid hfi
      have HWF := Lib.hid hwf
      clear hcv hwf hfi
      go_wp2_with (first | (refine wpList_load_rowM (by rfl) 32 _ rfl W0 0 (by go_simp) C cv HCV.out.symm _ (range_row S6.out.box) Try.underlying32 rfl HSZ.out ?_) | (refine wpList_store_rowM rfl 32 _ _ rfl R 0 C cv (by go_simp) (by go_simp) HCV.out.symm HFI.out.2.1 HSZ.out HC1.out HWF.out ?_))
      refine bodyPost_cell_tmp rfl R _ _ _ _ rfl HFI.out.1 Try.underlying32 rfl (by rw [List.size_toArray]; exact HSZ.out) (.int .i64 0) rfl rfl ?_
      rw [HPQ.out]
      refine .inr ⟨i, j, k, x, y, h1, rfl, HGK.out, HI.out, HY.out, HST.out, ?_, ?_, HFI.out.2.2.2⟩
      · rw [← HCC.out, HDD.out, ← stL_run h1 sd ((i : Int) + 1) g]
        rfl
      · obtain ⟨I, hI⟩ := HFI.out.2.2.1
        rw [HDD.out]
        exact hI.ok HGD.out.buf
end Go.Proofs.Ytogcfndhcphpaaa
namespace Go.Proofs.Ytogcfndhcphpaaa
open Go.RowKit
def tp0 : Pr := ⟨1, 0, ⟨[0, 0, 0, 0, 0, 0, 0, 0], 0, 0⟩, 0⟩
def tp1 : Pr := ⟨0, 0, ⟨[1, 2, 3, 0, 0, 0, 0, 0], 0, 3⟩, 0⟩
def twoS : St := ⟨[[(0, 0)]], [⟨0, 0, 1, 0, 0⟩, ⟨0, 0, 1, 0, 0⟩, ⟨0, 0, 1, 0, 0⟩], tp0 :: tp1 :: List.replicate 6 nilPr, [(1, 0)], [], 0, 0, 0, 0, [], [], [], [], [], 0, 2⟩
theorem two_new : St.new [[(0, 0)]] 2 = (St.made [[(0, 0)]] 2, 0) := St.new_yes (by decide +kernel)
theorem two_at : Ri.at' 0 [1, 2, 3] = ⟨[1, 2, 3, 0, 0, 0, 0, 0], 0, 3⟩ := by kernel_rfl
theorem own_three (v : World) : OwnInts (v.alloc (.cells #[.int .i64 1, .int .i64 2, .int .i64 3] 3)) v.heap.size (.slice (some ⟨v.heap.size, 0, none⟩) 3 3) [1, 2, 3] := ⟨rfl, .inr ⟨v.heap.size, 3, _, rfl, Nat.le_refl _, blk_new v _, Nat.le_refl _, by decide, rfl, rfl⟩⟩
structure TwK (B1 q0 g0 m0 : Nat) (h : StH) (w : World) : Prop where
  box : w.heap[B1]? = some (.cells (stC h twoS) 32 (0, 0))
  ps : ∃ x : Pr, OwnRows 40 13 pL w q0 (.slice (some ⟨q0, 0, none⟩) 8 8) (tp0 :: x :: List.replicate 6 nilPr)
  gs : w.heap[g0]? = some (.cells #[.int .i64 0, .int .i64 0, .int .i64 1, .int .i64 0, .int .i64 0, .int .i64 0, .int .i64 0, .int .i64 1, .int .i64 0, .int .i64 0, .int .i64 0, .int .i64 0, .int .i64 1, .int .i64 0, .int .i64 0] 55 (0, 0))
  ms : w.heap[m0]? = some (.cells #[.int .i64 1, .int .i64 0] 57 (0, 0))
  lt : B1 < q0 ∧ m0 < q0 ∧ g0 < q0
theorem TwK.low {B1 q0 g0 m0 M : Nat} {h : StH} {w w2 : World} (k : TwK B1 q0 g0 m0 h w) (hl : LowSame M w w2) (hg : q0 < M) : TwK B1 q0 g0 m0 h w2 := by
  obtain ⟨x, h1⟩ := k.ps
  have hlt := k.lt
  exact ⟨(hl B1 (by omega)).trans k.box, ⟨x, h1.lowM hl fun b hb => by cases hb; exact hg⟩, (hl g0 (by omega)).trans k.gs, (hl m0 (by omega)).trans k.ms, k.lt⟩
set_option maxRecDepth 100000 in
set_option maxHeartbeats 16000000 in
theorem two_any (w : World) : Calls Try.prog 83 #[] w fun e w' => ∃ h, e = .returned (stV h twoS) ∧ StOk w' h twoS ∧ Ext w w' := by
  obtain ⟨R, hR⟩ : ∃ R, w.heap.size = R := ⟨_, rfl⟩
  obtain ⟨w0, hw0⟩ : ∃ w0, w.alloc (.cells #[.slice none 0 0, .slice none 0 0, .slice none 0 0, .slice none 0 0, .slice none 0 0, .int .i64 0, .int .i64 0, .int .i64 0, .int .i64 0, .slice none 0 0, .slice none 0 0, .slice none 0 0, .slice none 0 0, .slice none 0 0, .int .i64 0, .int .i64 0] 32) = w0 := ⟨_, rfl⟩
  obtain ⟨w1, hw1⟩ : ∃ w1, w0.alloc (.cells #[.int .i64 0, .int .i64 0] 68) = w1 := ⟨_, rfl⟩
  obtain ⟨w2, hw2⟩ : ∃ w2, w1.alloc (.cells #[.slice (some ⟨w0.heap.size, 0, none⟩) 1 1] 69) = w2 := ⟨_, rfl⟩
  have hx0 : Ext w w0 := by rw [← hw0]; exact (Ext.refl w).alloc _
  have hx1 : Ext w0 w1 := by rw [← hw1]; exact (Ext.refl w0).alloc _
  have hx2 : Ext w1 w2 := by rw [← hw2]; exact (Ext.refl w1).alloc _
  have hr0 : w0.heap[R]? = some (.cells #[.slice none 0 0, .slice none 0 0, .slice none 0 0, .slice none 0 0, .slice none 0 0, .int .i64 0, .int .i64 0, .int .i64 0, .int .i64 0, .slice none 0 0, .slice none 0 0, .slice none 0 0, .slice none 0 0, .slice none 0 0, .int .i64 0, .int .i64 0] 32 (0, 0)) := by rw [← hw0, ← hR]; exact blk_new w _
  have hb1 : w1.heap[w0.heap.size]? = some (.cells #[.int .i64 0, .int .i64 0] 68 (0, 0)) := by rw [← hw1]; exact blk_new w0 _
  have hb2 : w2.heap[w1.heap.size]? = some (.cells #[.slice (some ⟨w0.heap.size, 0, none⟩) 1 1] 69 (0, 0)) := by rw [← hw2]; exact blk_new w1 _
  have key : ∀ v : World, v.heap[w0.heap.size]? = some (.cells #[.int .i64 0, .int .i64 0] 68 (0, 0)) → v.heap[w1.heap.size]? = some (.cells #[.slice (some ⟨w0.heap.size, 0, none⟩) 1 1] 69 (0, 0)) → NestAt 2 pairL v (.slice (some ⟨w1.heap.size, 0, none⟩) 1 1) [[(0, 0)]] := fun v k1 k2 => nest_one k2 ⟨_, _, rfl, Nat.le_refl 1, fun _ => ⟨w0.heap.size, 0, rfl, blk_lt k1, fun j x hj i u hu => by
    match j with
    | 0 =>
      simp at hj; subst hj
      refine blk_cell k1 _ _ ?_
      match i with
      | 0 | 1 => simp [pairL] at hu; subst hu; rfl
      | i + 2 => simp [pairL] at hu
    | j + 1 => simp at hj⟩⟩
  have KEY := Lib.hid key
  have HN1 := Lib.hid (rNew_pa _ [[(0, 0)]] 2 _ two_new w2 (key w2 (hx2.blk hb1) hb2) (by decide) (by decide))
  have HX2 : Hid (Ext w w2) := Lib.hid (hx0.trans (hx1.trans hx2))
  have HR2 := Lib.hid ((hx1.trans hx2).blk hr0)
  have HBI := Lib.hid (hx2.blk hb1)
  have HBP := Lib.hid hb2
  have HRL : Hid (R < w0.heap.size ∧ w0.heap.size < w1.heap.size) := Lib.hid ⟨blk_lt hr0, blk_lt hb1⟩
  have HW0 := Lib.hid hw0
  have HW1 := Lib.hid hw1
  have HW2 := Lib.hid hw2
  have HRR := Lib.hid hR
  clear hR hw0 hw1 hw2 hx0 hx1 hx2 hr0 hb1 hb2 key
  go_enter Try.func83, Try.ntmps83
  go_wp2_with (first | rw [HW0.out, HRR.out] | rw [HW0.out] | rw [HW1.out] | rw [HW2.out])
  refine HN1.out.mono ?_
  rintro e wa ⟨h1, rfl, hk1, hpa, hxa⟩
  simp only at hpa ⊢
  have hpa := hpa trivial
  obtain ⟨wb, wc, hwb, hwc, hth, hbc, hxc⟩ := st_box wa h1 (St.made [[(0, 0)]] 2)
  obtain ⟨B1, hB1⟩ : ∃ B1, wa.heap.size = B1 := ⟨_, rfl⟩
  rw [hB1] at hwc hth hbc
  obtain ⟨g0, hg0⟩ : ∃ g0, wc.heap.size = g0 := ⟨_, rfl⟩
  obtain ⟨wd, hwd⟩ : ∃ wd, wc.alloc (.cells #[.int .i64 0, .int .i64 0, .int .i64 1, .int .i64 0, .int .i64 0, .int .i64 0, .int .i64 0, .int .i64 1, .int .i64 0, .int .i64 0, .int .i64 0, .int .i64 0, .int .i64 1, .int .i64 0, .int .i64 0] 55) = wd := ⟨_, rfl⟩
  obtain ⟨we, hwe⟩ : ∃ we, wd.setCell ⟨B1, 1, none⟩ (.slice (some ⟨g0, 0, none⟩) 3 3) = we := ⟨_, rfl⟩
  obtain ⟨wf, hwf⟩ : ∃ wf, we.setCell ⟨B1, 4, none⟩ (.slice none 0 0) = wf := ⟨_, rfl⟩
  obtain ⟨m0, hm0⟩ : ∃ m0, wf.heap.size = m0 := ⟨_, rfl⟩
  obtain ⟨wg, hwg⟩ : ∃ wg, wf.alloc (.cells #[.int .i64 1, .int .i64 0] 57) = wg := ⟨_, rfl⟩
  obtain ⟨wh, hwh⟩ : ∃ wh, wg.setCell ⟨B1, 3, none⟩ (.slice (some ⟨m0, 0, none⟩) 1 1) = wh := ⟨_, rfl⟩
  obtain ⟨q0, hq0⟩ : ∃ q0, wh.heap.size = q0 := ⟨_, rfl⟩
  obtain ⟨wi, hwi⟩ : ∃ wi, wh.alloc (.cells (madeCells #[.int .i64 0, .int .i64 0, .int .i64 0, .int .i64 0, .int .i64 0, .int .i64 0, .int .i64 0, .int .i64 0, .int .i64 0, .int .i64 0, .int .i64 0, .int .i64 0, .int .i64 0] 104) 40) = wi := ⟨_, rfl⟩
  obtain ⟨wj, hwj⟩ : ∃ wj, wi.setCell ⟨B1, 2, none⟩ (.slice (some ⟨q0, 0, none⟩) 8 8) = wj := ⟨_, rfl⟩
  obtain ⟨wk, hwk⟩ : ∃ wk, wj.setCells q0 0 (pL tp0) = wk := ⟨_, rfl⟩
  have hB1c : B1 < g0 := by have := blk_lt hbc; omega
  have szd : wd.heap.size = g0 + 1 := by rw [← hwd, World.size_alloc, hg0]
  have bd : wd.heap[B1]? = some (.cells (stC h1 (St.made [[(0, 0)]] 2)) 32 (0, 0)) := by rw [← hwd]; exact blk_alloc hbc _
  have gd : wd.heap[g0]? = some (.cells #[.int .i64 0, .int .i64 0, .int .i64 1, .int .i64 0, .int .i64 0, .int .i64 0, .int .i64 0, .int .i64 1, .int .i64 0, .int .i64 0, .int .i64 0, .int .i64 0, .int .i64 1, .int .i64 0, .int .i64 0] 55 (0, 0)) := by rw [← hwd, ← hg0]; exact blk_new wc _
  have be : we.heap[B1]? = some (.cells (stC { h1 with ga := some ⟨g0, 0, none⟩, gc := 3 } { (St.made [[(0, 0)]] 2) with gs := twoS.gs }) 32 (0, 0)) := by rw [← hwe]; exact blk_set bd 1 (.slice (some ⟨g0, 0, none⟩) 3 3)
  have ge := blk_set_other gd ⟨B1, 1, none⟩ (by simp only; omega) (.slice (some ⟨g0, 0, none⟩) 3 3)
  rw [hwe] at ge
  have sze : we.heap.size = g0 + 1 := by rw [← hwe, ← szd]; simp [World.setCell]
  have bf : wf.heap[B1]? = some (.cells (stC { h1 with ga := some ⟨g0, 0, none⟩, gc := 3, la := none, lc := 0 } { (St.made [[(0, 0)]] 2) with gs := twoS.gs, glob := [] }) 32 (0, 0)) := by rw [← hwf]; exact blk_set be 4 (.slice none 0 0)
  have gf := blk_set_other ge ⟨B1, 4, none⟩ (by simp only; omega) (.slice none 0 0)
  rw [hwf] at gf
  have szf : wf.heap.size = g0 + 1 := by rw [← hwf, ← sze]; simp [World.setCell]
  have bg := blk_alloc bf (.cells #[.int .i64 1, .int .i64 0] 57)
  have gg := blk_alloc gf (.cells #[.int .i64 1, .int .i64 0] 57)
  have mg := blk_new wf (.cells #[.int .i64 1, .int .i64 0] 57)
  rw [hwg] at bg gg mg
  rw [hm0] at mg
  have szg : wg.heap.size = g0 + 2 := by rw [← hwg, World.size_alloc, szf]
  have bh : wh.heap[B1]? = some (.cells (stC { h1 with ga := some ⟨g0, 0, none⟩, gc := 3, la := none, lc := 0, ma := some ⟨m0, 0, none⟩, mc := 1 } { (St.made [[(0, 0)]] 2) with gs := twoS.gs, glob := [], ms := [(1, 0)] }) 32 (0, 0)) := by rw [← hwh]; exact blk_set bg 3 (.slice (some ⟨m0, 0, none⟩) 1 1)
  have gh := blk_set_other gg ⟨B1, 3, none⟩ (by simp only; omega) (.slice (some ⟨m0, 0, none⟩) 1 1)
  have mh := blk_set_other mg ⟨B1, 3, none⟩ (by simp only; omega) (.slice (some ⟨m0, 0, none⟩) 1 1)
  rw [hwh] at gh mh
  have szh : wh.heap.size = g0 + 2 := by rw [← hwh, ← szg]; simp [World.setCell]
  have bi := blk_alloc bh (.cells (madeCells #[.int .i64 0, .int .i64 0, .int .i64 0, .int .i64 0, .int .i64 0, .int .i64 0, .int .i64 0, .int .i64 0, .int .i64 0, .int .i64 0, .int .i64 0, .int .i64 0, .int .i64 0] 104) 40)
  have gi := blk_alloc gh (.cells (madeCells #[.int .i64 0, .int .i64 0, .int .i64 0, .int .i64 0, .int .i64 0, .int .i64 0, .int .i64 0, .int .i64 0, .int .i64 0, .int .i64 0, .int .i64 0, .int .i64 0, .int .i64 0] 104) 40)
  have mi := blk_alloc mh (.cells (madeCells #[.int .i64 0, .int .i64 0, .int .i64 0, .int .i64 0, .int .i64 0, .int .i64 0, .int .i64 0, .int .i64 0, .int .i64 0, .int .i64 0, .int .i64 0, .int .i64 0, .int .i64 0] 104) 40)
  have pi := ps_made wh
  rw [hwi] at bi gi mi pi
  rw [hq0] at pi
  have szi : wi.heap.size = g0 + 3 := by rw [← hwi, World.size_alloc, szh]
  have hq3 : q0 = g0 + 2 := by omega
  obtain ⟨hh, hhh⟩ : ∃ hh : StH, { h1 with ga := some ⟨g0, 0, none⟩, gc := 3, la := none, lc := 0, ma := some ⟨m0, 0, none⟩, mc := 1, qa := some ⟨q0, 0, none⟩, qc := 8 } = hh := ⟨_, rfl⟩
  have bj : wj.heap[B1]? = some (.cells (stC hh twoS) 32 (0, 0)) := by rw [← hwj, ← hhh]; exact blk_set bi 2 (.slice (some ⟨q0, 0, none⟩) 8 8)
  have gj := blk_set_other gi ⟨B1, 2, none⟩ (by simp only; omega) (.slice (some ⟨q0, 0, none⟩) 8 8)
  have mj := blk_set_other mi ⟨B1, 2, none⟩ (by simp only; omega) (.slice (some ⟨q0, 0, none⟩) 8 8)
  have uj : Upd B1 wi (wi.setCell ⟨B1, 2, none⟩ (.slice (some ⟨q0, 0, none⟩) 8 8)) := (Upd.refl B1 wi).set 2 _
  have pj := pi.updB uj (by omega)
  rw [hwj] at gj mj pj
  have szj : wj.heap.size = g0 + 3 := by rw [← hwj, ← szi]; simp [World.setCell]
  obtain ⟨g', c', e1, _, _, _, hth8, hown8, hu8⟩ := OwnRows.setCells pL_len pj (i := 0) (x := nilPr) (x' := tp0) rfl (j := 0) (ds := pL tp0) (by rw [pL_len]; decide) (fun t ht => by rw [if_pos (by rw [pL_len]; omega)]; rfl)
  simp only [Value.slice.injEq, Option.some.injEq, Addr.mk.injEq, and_true] at e1
  have e2 := e1.1
  clear e1
  subst e2
  have hth8' : wj.there q0 0 (pL tp0).length := hth8
  have hown9 : OwnRows 40 13 pL wk q0 (.slice (some ⟨q0, 0, none⟩) 8 8) (tp0 :: nilPr :: List.replicate 6 nilPr) := by rw [← hwk]; exact hown8
  have hu9 : Upd q0 wj wk := by rw [← hwk]; exact hu8
  have HTK : Hid (TwK B1 q0 g0 m0 hh wk) := Lib.hid ⟨(hu9.block B1 (by omega) (fun e => by injection e; omega)).trans bj, ⟨nilPr, hown9⟩, (hu9.block g0 (by omega) (fun e => by injection e; omega)).trans gj, (hu9.block m0 (by omega) (fun e => by injection e; omega)).trans mj, by omega⟩
  have hxk : Ext wa wk := by
    have x1 : Ext wa wd := by rw [← hwd]; exact hxc.alloc _
    have x2 : Ext wa we := by rw [← hwe]; exact x1.setCell (p := ⟨B1, 1, none⟩) (by simp only; omega) _
    have x3 : Ext wa wf := by rw [← hwf]; exact x2.setCell (p := ⟨B1, 4, none⟩) (by simp only; omega) _
    have x4 : Ext wa wg := by rw [← hwg]; exact x3.alloc _
    have x5 : Ext wa wh := by rw [← hwh]; exact x4.setCell (p := ⟨B1, 3, none⟩) (by simp only; omega) _
    have x6 : Ext wa wi := by rw [← hwi]; exact x5.alloc _
    have x7 : Ext wa wj := by rw [← hwj]; exact x6.setCell (p := ⟨B1, 2, none⟩) (by simp only; omega) _
    exact x7.upd hu9 (by omega)
  have HXK := Lib.hid hxk
  have HQM : Hid (q0 + 1 ≤ wk.heap.size ∧ wa.heap.size ≤ q0 ∧ B1 < q0 ∧ wa.heap.size ≤ B1 ∧ wa.heap.size ≤ g0 ∧ wa.heap.size ≤ m0) := Lib.hid ⟨by have := hu9.size; omega, by omega, by omega, by omega, by omega, by omega⟩
  have z1 : wd.cell? ⟨B1, 1, none⟩ = some (.slice h1.ga 1 h1.gc) := st1 bd
  have f1 := frozen_of_row _ _ 1 _ _ bd
  have z4 := st4 be
  have f4 := frozen_of_row _ _ 4 _ _ be
  have z3 := st3 bg
  have f3 := frozen_of_row _ _ 3 _ _ bg
  have z2 := st2 bi
  have f2 := frozen_of_row _ _ 2 _ _ bi
  have k2 : wj.cell? ⟨B1, 2, none⟩ = some (.slice (some ⟨q0, 0, none⟩) 8 8) := by have := st2 bj; rw [← hhh] at this; exact this
  obtain ⟨pv, hpv⟩ : ∃ pv, Value.agg (pL tp0).toArray = pv := ⟨_, rfl⟩
  have HPV := Lib.hid hpv
  have hpv' : Value.agg #[.int .i64 1, .int .i64 0, .int .i64 0, .int .i64 0, .int .i64 0, .int .i64 0, .int .i64 0, .int .i64 0, .int .i64 0, .int .i64 0, .int .i64 0, .int .i64 0, .int .i64 0] = pv := hpv
  have HPV' := Lib.hid hpv'
  have HT8 := Lib.hid hth8'
  have hmk := make_ps wh
  rw [hwi, hq0] at hmk
  have HWB := Lib.hid hwb
  have HB1 := Lib.hid hB1
  have HWC := Lib.hid hwc
  have HTHB := Lib.hid hth
  have HG0 := Lib.hid hg0
  have HWD := Lib.hid hwd
  have HWE := Lib.hid hwe
  have HWF := Lib.hid hwf
  have HM0 := Lib.hid hm0
  have HWG := Lib.hid hwg
  have HWH := Lib.hid hwh
  have HQ0 := Lib.hid hq0
  have HWI := Lib.hid hwi
  have HWJ := Lib.hid hwj
  have HWK := Lib.hid hwk
  have HXA := Lib.hid hxa
  have HPA := Lib.hid hpa
  have HHH := Lib.hid hhh
  clear hwb hwc hth hbc hxc hB1 hwd hg0 hwe hwf hm0 hwg hwh hq0 hwi hwj hwk hxa hpa hk1 hB1c szd bd gd be ge sze bf gf szf bg gg mg szg bh gh mh szh bi gi mi pi szi hq3 hhh bj gj mj uj pj szj hth8 hown8 hu8 hown9 hu9 hxk hpv hth8'
  go_upto_region 7 with (first | rw [HWB.out, HB1.out] | rw [HWD.out, HG0.out] | rw [HWE.out] | rw [HWF.out] | rw [HWG.out, HM0.out] | rw [HWH.out] | rw [HWI.out, HQ0.out] | rw [HWJ.out] | (refine wpList_store_row rfl 32 _ _ rfl B1 (stL h1 (St.made [[(0, 0)]] 2)) (stV h1 (St.made [[(0, 0)]] 2)) (by go_simp) (by go_simp) rfl HTHB.out (by kernel_rfl) (stL_one _ _) HWC.out ?_) | (refine wpList_store_rowM rfl 40 _ _ rfl q0 0 (pL tp0) pv (by go_simp) (by go_simp) HPV.out.symm HT8.out (by kernel_rfl) (pL_one _) HWK.out ?_))
  have hkk0 := HTK.out
  have hq1 : q0 < q0 + 1 := Nat.lt_succ_self _
  have hqz := HQM.out
  have hxk0 := HXK.out
  clear z1 f1 z4 f4 z3 f3 z2 f2 k2 hmk hpv'
  refine region_rgz ([(2, (fun u => ∃ b, u = .slice (some ⟨b, 0, none⟩) 3 3 : Value → Prop), (fun u w => OwnInts w (q0 + 1) (u 2).v [1, 2, 3] : (Nat → GV) → World → Prop)), (3, (fun u => u = .agg #[.int .i64 1, .int .i64 2, .int .i64 3, .int .i64 0, .int .i64 0, .int .i64 0, .int .i64 0, .int .i64 0, .int .i64 0, .int .i64 3] : Value → Prop), (fun _ _ => True : (Nat → GV) → World → Prop)), (6, (fun u => u = undef : Value → Prop), (fun u w => OwnRows 40 13 pL w q0 (.slice (some ⟨q0, 0, none⟩) 8 8) (tp0 :: tp1 :: List.replicate 6 nilPr) : (Nat → GV) → World → Prop))]) (wa) (q0 + 1) (q0) (6) (TwK B1 q0 g0 m0 hh) ([]) (by kernel_rfl) (by kernel_rfl) ?_ ?_ (by omega) (fun w w2 hl hk => by first | (obtain ⟨x, hx⟩ := hk; exact ⟨x, (hl _ (by omega)).trans hx⟩) | exact hk.low hl (by assumption)) ?_ ?_ ?_ ?_
  · exact List.forall_mem_nil _
  · exact List.forall_mem_cons.2 ⟨⟨⟨_, 0, rfl⟩, fun u v w h ht => by show (fun u w => OwnInts w (q0 + 1) (u 2).v [1, 2, 3] : (Nat → GV) → World → Prop) v w; dsimp only; rw [← h 2 (.inl rfl) (by kernel_rfl)]; exact ht, fun u w w2 hx ht => OwnInts.ext ht hx, List.forall_mem_nil _, fun _ u w w2 hz ht => OwnInts.updB ht hz (Nat.lt_succ_self _)⟩, List.forall_mem_cons.2 ⟨⟨⟨_, rfl⟩, fun _ _ _ _ _ => trivial, fun _ _ _ _ _ => trivial, List.forall_mem_nil _, fun _ _ _ _ _ _ => trivial⟩, List.forall_mem_cons.2 ⟨⟨⟨_, rfl⟩, fun _ _ _ _ ht => ht, fun u w w2 hx ht => OwnRows.ext ht hx, List.forall_mem_nil _, fun hne => absurd rfl hne⟩, List.forall_mem_nil _⟩⟩⟩
  · first | assumption | exact Ext.refl _
  · first | assumption | omega
  · assumption
  refine rg_pure (v := ?_) rfl (by kernel_rfl) (by kernel_rfl) (fun w hS hN => ?_) ?_
  rotate_left 1
  · obtain ⟨hS, hM, hK⟩ := hS
    clear hN
    go_simp
    refine givesP_mk ?_
    with_reducible rfl
  refine rg_pure (v := ?_) rfl (by kernel_rfl) (by kernel_rfl) (fun w hS hN => ?_) ?_
  rotate_left 1
  · obtain ⟨hS, hM, hK⟩ := hS
    have k2 : w.cell? ⟨B1, 2, none⟩ = some (.slice (some ⟨q0, 0, none⟩) 8 8) := by (have := st2 hK.box; rw [← HHH.out] at this; exact this)
    clear hN
    go_simp
    refine givesP_mk ?_
    with_reducible rfl
  refine rg_mem (fun u => ∃ b, u = .slice (some ⟨b, 0, none⟩) 3 3 : Value → Prop) (fun u w => OwnInts w (q0 + 1) (u 2).v [1, 2, 3] : (Nat → GV) → World → Prop) (fun _ => Ext) rfl rfl rfl rfl (by kernel_rfl) (by kernel_rfl) (fun w hS hN R hR => ?_) ?_
  · obtain ⟨hS, hM, hK⟩ := hS
    have HR := Lib.hid hR
    clear hR
    (try clear hN)
    go_simp
    exact givesM_val (HR.out _ _ ⟨_, rfl⟩ (OwnInts.lower (own_three w) hM) ((Ext.refl w).alloc _))
  rintro u2 s2 t2 ⟨b2, rfl⟩
  refine rg_mem (fun u => u = .agg #[.int .i64 1, .int .i64 2, .int .i64 3, .int .i64 0, .int .i64 0, .int .i64 0, .int .i64 0, .int .i64 0, .int .i64 0, .int .i64 3] : Value → Prop) (fun _ _ => True : (Nat → GV) → World → Prop) (fun _ => Ext) rfl rfl rfl rfl (by kernel_rfl) (by kernel_rfl) (fun w hS hN R hR => ?_) ?_
  · obtain ⟨hS, hM, hK⟩ := hS
    have HR := Lib.hid hR
    clear hR
    have h2 : OwnInts w (q0 + 1) (.slice (some ⟨b2, 0, none⟩) 3 3) [1, 2, 3] := hN.get 2 rfl (by kernel_rfl)
    (try clear hN)
    go_simp
    refine givesM_call ((rat_any _ 0 [1, 2, 3] 0 rfl (by decide) w h2.at.2 (by decide)).mono ?_)
    rintro e w' ⟨rfl, hx⟩
    exact ⟨_, rfl, HR.out _ _ (by rw [two_at]; rfl) trivial hx⟩
  rintro u3 s3 t3 rfl
  refine rg_pure (v := ?_) rfl (by kernel_rfl) (by kernel_rfl) (fun w hS hN => ?_) ?_
  rotate_left 1
  · obtain ⟨hS, hM, hK⟩ := hS
    clear hN
    go_simp
    refine givesP_mk ?_
    with_reducible rfl
  refine rg_pure (v := ?_) rfl (by kernel_rfl) (by kernel_rfl) (fun w hS hN => ?_) ?_
  rotate_left 1
  · obtain ⟨hS, hM, hK⟩ := hS
    clear hN
    go_simp
    refine givesP_mk ?_
    with_reducible rfl
  refine rg_mem (fun u => u = undef : Value → Prop) (fun u w => OwnRows 40 13 pL w q0 (.slice (some ⟨q0, 0, none⟩) 8 8) (tp0 :: tp1 :: List.replicate 6 nilPr) : (Nat → GV) → World → Prop) (fun _ w w2 => Upd (q0) w w2 ∧ (TwK B1 q0 g0 m0 hh : World → Prop) w2) rfl rfl rfl rfl (by kernel_rfl) (by kernel_rfl) (fun w hS hN R hR => ?_) ?_
  · obtain ⟨hS, hM, hK⟩ := hS
    have HR := Lib.hid hR
    clear hR
    obtain ⟨x, ho⟩ := hK.ps
    obtain ⟨g', c', e1, _, _, _, hth, hown', hu⟩ := OwnRows.setCells pL_len ho (i := 1) (x := x) (x' := tp1) rfl (j := 0) (ds := pL tp1) (by rw [pL_len]; decide) (fun t ht => by rw [if_pos (by rw [pL_len]; omega)]; rfl)
    simp only [Value.slice.injEq, Option.some.injEq, Addr.mk.injEq, and_true] at e1
    have e2 := e1.1
    clear e1
    subst e2
    clear hN
    refine givesM_store 40 _ _ rfl q0 13 (by go_simp) (pL tp1) (by go_simp; rfl) hth (by kernel_rfl) (pL_one _) ?_
    exact HR.out _ _ rfl hown' ⟨hu, ⟨(hu.block B1 (blk_lt hK.box) (fun e => by injection e; have := hK.lt; omega)).trans hK.box, ⟨tp1, hown'⟩, (hu.block g0 (blk_lt hK.gs) (fun e => by injection e; have := hK.lt; omega)).trans hK.gs, (hu.block m0 (blk_lt hK.ms) (fun e => by injection e; have := hK.lt; omega)).trans hK.ms, hK.lt⟩⟩
  rintro u6 s6 t6 rfl
  refine rg_done rfl (Nat.le_of_ble_eq_true (by kernel_rfl)) ?_
  intro w11 hS hT
  have hP : OwnRows 40 13 pL w11 q0 (.slice (some ⟨q0, 0, none⟩) 8 8) (tp0 :: tp1 :: List.replicate 6 nilPr) := hT (6, ⟨undef, s6, t6⟩) (by simp)
  have hK := hS.2.2
  have HBF : Hid (w11.heap[B1]? = some (.cells (stC hh twoS) 32 (0, 0))) := Lib.hid hK.box
  have hx11 : Ext w2 w11 := HXA.out.trans hS.1
  have hr11 := hx11.blk HR2.out
  obtain ⟨wf, hwf⟩ : ∃ wf, w11.setCells R 0 (stL hh twoS) = wf := ⟨_, rfl⟩
  have hu : Upd R w11 wf := by rw [← hwf]; exact setCells_upd _ _ _ _
  have HTR : Hid (w11.there R 0 (stL hh twoS).length) := Lib.hid (there_row hr11 (Nat.le_refl 16))
  have HRZ : Hid (wf.heap[R]? = some (.cells (stL hh twoS).toArray 32 (0, 0))) := Lib.hid (by rw [← hwf]; exact setCells_at [.slice none 0 0, .slice none 0 0, .slice none 0 0, .slice none 0 0, .slice none 0 0, .int .i64 0, .int .i64 0, .int .i64 0, .int .i64 0, .slice none 0 0, .slice none 0 0, .slice none 0 0, .slice none 0 0, .slice none 0 0, .int .i64 0, .int .i64 0] (stL hh twoS) rfl hr11)
  have HXF : Hid (Ext w wf) := Lib.hid ((HX2.out.trans hx11).upd hu (by have := HRR.out; omega))
  have hsz : R < w2.heap.size := blk_lt HR2.out
  have hwa := HXA.out.size
  have hwk := HXK.out.size
  have HOKF : Hid (StOk wf hh twoS) := Lib.hid (by
    have hlt := hK.lt
    have hqm := HQM.out
    have hrl := HRL.out
    have hpa := HPA.out
    have hh1 := HHH.out
    refine ⟨?_, ?_, ?_, ?_, ⟨_, _, rfl, fun h => absurd h (by decide)⟩, ⟨_, _, rfl, fun h => absurd h (by decide)⟩, ⟨_, _, rfl, fun h => absurd h (by decide)⟩, ⟨_, _, rfl, fun h => absurd h (by decide)⟩, ⟨_, _, rfl, fun h => absurd h (by decide)⟩, ?_, by decide +kernel⟩
    · have : NestAt 2 pairL wf (.slice (some ⟨w1.heap.size, 0, none⟩) 1 1) [[(0, 0)]] := KEY.out wf (hu.blk (hx11.blk HBI.out) (by omega)) (hu.blk (hx11.blk HBP.out) (by omega))
      rw [hpa] at this
      rw [← hh1]
      exact this
    · have hg := hu.blk hK.gs (by omega)
      rw [← hh1]
      exact ⟨_, _, rfl, Nat.le_refl 3, fun _ => ⟨g0, 0, rfl, blk_lt hg, fun j y hj i u hu => by
        match j with
        | 0 | 1 | 2 =>
          simp [twoS] at hj; subst hj
          refine blk_cell hg _ _ ?_
          match i with
          | 0 | 1 | 2 | 3 | 4 => simp [gL] at hu; subst hu; rfl
          | i + 5 => simp [gL] at hu
        | j + 3 => simp [twoS] at hj⟩⟩
    · have := OwnRows.rows pL_len (hP.but (But.upd (S := fun b => b = R) hu rfl) (fun b hb e => by have := (hP.lt b hb).1; omega))
      rw [← hh1]
      exact this
    · have hm := hu.blk hK.ms (by omega)
      rw [← hh1]
      exact ⟨_, _, rfl, Nat.le_refl 1, fun _ => ⟨m0, 0, rfl, blk_lt hm, fun j y hj i u hu => by
        match j with
        | 0 =>
          simp [twoS] at hj; subst hj
          simp only [Nat.zero_mul, Nat.zero_add]
          refine blk_cell hm _ _ ?_
          match i with
          | 0 | 1 => simp [pairL] at hu; subst hu; rfl
          | i + 2 => simp [pairL] at hu
        | j + 1 => simp [twoS] at hj⟩⟩
    · exact PairsAt.none _ _ _)
  have HWF := Lib.hid hwf
  clear hS hT hP hK hx11 hr11 hwf hu hsz hwa hwk hkk0 hq1 hqz hxk0
  go_wp2_with (first | (refine wpList_load_rowW (by rfl) 32 _ rfl B1 (by go_simp) (stL hh twoS) (stV hh twoS) rfl _ (range_row HBF.out) Try.underlying32 rfl (by kernel_rfl) ?_) | (refine wpList_store_row rfl 32 _ _ rfl R (stL hh twoS) (stV hh twoS) (by go_simp) (by go_simp) rfl HTR.out (by kernel_rfl) (stL_one _ _) HWF.out ?_))
  refine bodyPost_ret (v := .agg (stL hh twoS).toArray) (results_cell_row (by rfl) _ _ R _ _ _ _ (by go_simp) HRZ.out Try.underlying32 (by rfl) (by kernel_rfl)) (by go_simp) ?_
  exact ⟨hh, rfl, HOKF.out, HXF.out⟩
end Go.Proofs.Ytogcfndhcphpaaa
namespace Go.Proofs.Ytogcfndhcphpaaa
open Go.RowKit
theorem two_looks : twoS.looks 1 = true ∧ twoS.looks 2 = false := ⟨by decide +kernel, by decide +kernel⟩
theorem two_good : StGood twoS := by
  refine ⟨⟨?_, ?_, ?_, ?_, ?_, ?_, ?_, ?_⟩, ?_, ?_⟩
  all_goals first | decide | decide +kernel | (simp [twoS])
theorem tp_lists : tp0.ring.list = [] ∧ tp1.ring.list = [1, 2, 3] := ⟨by kernel_rfl, by kernel_rfl⟩
theorem two_p12 {t : St} {g : Int} (h : St.PickC twoS 0 tp0 2 t g) : g = 1 ∧ t.gs = twoS.gs ∧ ∃ r1 r2 : Ri, r1.Holds [3] ∧ r2.Holds [2] ∧ t.ps = { tp0 with ring := r2 } :: { tp1 with ring := r1 } :: List.replicate 6 nilPr := by
  cases h with
  | next h => exact absurd rfl h
  | ring h hl hr => rw [tp_lists.1] at hl; cases hl
  | glob h hg => cases hg
  | @half vi v g l r1 r2 h hg hv hne hu hvx hl hr1 hr2 =>
    obtain rfl : vi = 1 := by omega
    obtain rfl : tp1 = v := Option.some.inj (show some tp1 = some v from hvx)
    rw [tp_lists.2] at hl hr1
    obtain ⟨rfl, rfl⟩ : 1 = g ∧ [2] = l := by
      have h2 : [1, 2] = g :: l := hl
      injection h2 with h3 h4
      exact ⟨h3, h4⟩
    exact ⟨rfl, rfl, r1, r2, hr1, hr2, rfl⟩
  | @vnext vi v h hg hv hne hu hvx hl =>
    obtain rfl : vi = 1 := by omega
    obtain rfl : tp1 = v := Option.some.inj (show some tp1 = some v from hvx)
    rw [tp_lists.2] at hl
    cases hl
  | none h hg hv => exact absurd ⟨by decide, by decide, by decide⟩ hv
theorem two_p11 {t : St} {g : Int} (h : St.PickC twoS 0 tp0 1 t g) : g = 0 := by
  cases h with
  | next h => exact absurd rfl h
  | ring h hl hr => rw [tp_lists.1] at hl; cases hl
  | glob h hg => cases hg
  | half h hg hv hne hu hvx hl hr1 hr2 => omega
  | vnext h hg hv hne hu hvx hl => omega
  | none h hg hv => rfl
theorem two_idle {i j : Nat} {x : Pr} (h : St.Idle twoS i j x) (hp : (1 : Int) = (i : Int) + 1) : i = 0 ∧ x = tp0 := by
  obtain rfl : i = 0 := by omega
  exact ⟨rfl, (Option.some.inj (show some tp0 = some x from h.at_)).symm⟩
structure T12 (s : St) (r1 r2 : Ri) : Prop where
  len : s.ps.length = 8
  p0 : s.ps[0]? = some ⟨1, 0, r2, 0⟩
  p1 : s.ps[1]? = some ⟨0, 0, r1, 0⟩
  gl : s.gs.length = 3
  g0 : ∃ y : Gr, s.gs[0]? = some y ∧ y.st = 2
theorem two_t12 {t : St} {r1 r2 : Ri} (hg : t.gs = twoS.gs) (hp : t.ps = { tp0 with ring := r2 } :: { tp1 with ring := r1 } :: List.replicate 6 nilPr) : T12 (t.after 1 1) r1 r2 := by
  have e : t.after 1 1 = t.runG 1 1 := rfl
  rw [e]
  refine ⟨?_, ?_, ?_, ?_, ?_⟩
  · show t.ps.length = 8; rw [hp]; rfl
  · show t.ps[0]? = _; rw [hp]; rfl
  · show t.ps[1]? = _; rw [hp]; rfl
  · show (t.gs.set _ _).length = 3; rw [List.length_set, hg]; rfl
  · refine ⟨{ t.gAt 1 with st := 2, m := (t.pAt 1).m, seq := (t.gAt 1).seq + 1 }, ?_, rfl⟩; show (t.gs.set 0 _)[0]? = _; rw [hg]; rfl
theorem two_start : ((twoS.drop1 2).runG 1 2).ps.length = 8 ∧ ((twoS.drop1 2).runG 1 2).ps[1]? = some ⟨0, 0, ⟨[1, 3, 0, 0, 0, 0, 0, 0], 0, 2⟩, 0⟩ := ⟨by kernel_rfl, by kernel_rfl⟩
theorem two_p12R {w w' : World} {e : Ending} (h : PickR w twoS 1 2 e w') : ∃ (s : St) (h' : StH) (r1 r2 : Ri), r1.Holds [3] ∧ r2.Holds [2] ∧ T12 s r1 r2 ∧ e = .returned (.tuple #[stV h' s, .int .i64 1, .int .i64 0]) ∧ StOk w' h' s ∧ Ext w w' := by
  rcases h with ⟨h, _⟩ | ⟨i, j, x, t, g, h', hp, hi, hc, he, hk, hx⟩
  · rw [two_looks.1] at h; cases h
  · obtain ⟨rfl, rfl⟩ := two_idle hi hp
    obtain ⟨rfl, hg, r1, r2, h1, h2, hps⟩ := two_p12 hc
    exact ⟨_, h', r1, r2, h1, h2, two_t12 hg hps, he, hk, hx⟩
theorem two_p11R {w w' : World} {e : Ending} (h : PickR w twoS 1 1 e w') : ∃ (s : St) (h' : StH), e = .returned (.tuple #[stV h' s, .int .i64 0, .int .i64 0]) ∧ Ext w w' := by
  rcases h with ⟨h, _⟩ | ⟨i, j, x, t, g, h', hp, hi, hc, he, hk, hx⟩
  · rw [two_looks.1] at h; cases h
  · obtain ⟨rfl, rfl⟩ := two_idle hi hp
    obtain rfl := two_p11 hc
    exact ⟨_, h', he, hx⟩
theorem two_p21R {w w' : World} {e : Ending} (h : PickR w twoS 2 1 e w') : e = .returned (.tuple #[stV StH.nil St.nil, .int .i64 0, .int .i64 1]) ∧ Ext w w' := by
  rcases h with ⟨h, he, hx⟩ | ⟨i, j, x, t, g, h', hp, hi, hc, he, hk, hx⟩
  · exact ⟨he, hx⟩
  · obtain rfl : i = 1 := by omega
    obtain rfl : tp1 = x := Option.some.inj (show some tp1 = some x from hi.at_)
    have hm : (0 : Int) = (j : Int) + 1 := hi.m
    omega
theorem two_s12R {w w' : World} {e : Ending} (h : StartR w twoS 1 2 e w') : ∃ (s : St) (h' : StH), s.ps.length = 8 ∧ s.ps[1]? = some ⟨0, 0, ⟨[1, 3, 0, 0, 0, 0, 0, 0], 0, 2⟩, 0⟩ ∧ e = .returned (.tuple #[stV h' s, .int .i64 0]) ∧ StOk w' h' s ∧ Ext w w' := by
  rcases h with ⟨h, _⟩ | ⟨i, j, k, x, y, h', hp, hg, hi, hy, hs, he, hk, hx⟩
  · rcases h with h | h | h | ⟨k, y, hk, hy, hs⟩
    · rw [two_looks.1] at h; cases h
    · exact absurd h (by decide)
    · exact absurd h (by decide)
    · obtain rfl : k = 1 := by omega
      obtain rfl : (⟨0, 0, 1, 0, 0⟩ : Gr) = y := Option.some.inj (show some _ = some y from hy)
      exact absurd rfl hs
  · exact ⟨_, h', two_start.1, two_start.2, he, hk, hx⟩
set_option maxRecDepth 100000 in
set_option maxHeartbeats 32000000 in
theorem r14fixed_yes (w : World) : Calls Try.prog 34 #[] w fun e w' => e = .returned (.bool true) ∧ Ext w w' := by
  go_enter Try.func34, Try.ntmps34
  go_wp2_with fail
  refine (two_any w).mono ?_
  rintro e w1 ⟨h1, rfl, hk1, hx1⟩
  go_wp2_with fail
  refine (fPick_any h1 twoS 1 2 w1 hk1 two_good (by decide)).mono ?_
  rintro e w2 hpr
  obtain ⟨aS, ha, r1, r2, hr1, hr2, hta, rfl, hka, hx2⟩ := two_p12R hpr
  have HTA := Lib.hid hta
  have HR1 := Lib.hid hr1
  have HR2 := Lib.hid hr2
  have HKA := Lib.hid hka
  have HX2 := Lib.hid (hx1.trans hx2)
  obtain ⟨wb1, wc1, hwb, hwc, hth, hbc, hxc⟩ := st_box w2 ha aS
  obtain ⟨B1, hB⟩ : ∃ B1, w2.heap.size = B1 := ⟨_, rfl⟩
  rw [hB] at hwc hth hbc
  have HWB1 := Lib.hid hwb
  have HB1 := Lib.hid hB
  have HWC1 := Lib.hid hwc
  have HTH1 := Lib.hid hth
  have HBS1 := Lib.hid hbc
  have HXC1 := Lib.hid hxc
  clear hwb hwc hth hbc hxc hB
  clear hpr hk1 hx1 hta hr1 hr2 hka hx2
  go_upto_region 2 with (first | rw [HWB1.out, HB1.out] | (refine wpList_store_row rfl 32 _ _ rfl B1 (stL ha aS) (stV ha aS) (by go_simp) (by go_simp) rfl HTH1.out (by kernel_rfl) (stL_one _ _) HWC1.out ?_))
  go_wp2_with fail
  refine (two_any wc1).mono ?_
  rintro e w3 ⟨h3, rfl, hk3, hx3⟩
  go_wp2_with fail
  refine (fPick_any h3 twoS 1 1 w3 hk3 two_good (by decide)).mono ?_
  rintro e w4 hpr
  obtain ⟨bS, hb, rfl, hx4⟩ := two_p11R hpr
  have HX4 := Lib.hid (hx3.trans hx4)
  obtain ⟨wb2, wc2, hwb, hwc, hth, hbc, hxc⟩ := st_box w4 hb bS
  obtain ⟨B2, hB⟩ : ∃ B2, w4.heap.size = B2 := ⟨_, rfl⟩
  rw [hB] at hwc hth hbc
  have HWB2 := Lib.hid hwb
  have HB2 := Lib.hid hB
  have HWC2 := Lib.hid hwc
  have HTH2 := Lib.hid hth
  have HBS2 := Lib.hid hbc
  have HXC2 := Lib.hid hxc
  clear hwb hwc hth hbc hxc hB
  clear hpr hk3 hx3 hx4
  go_upto_region 3 with (first | rw [HWB2.out, HB2.out] | (refine wpList_store_row rfl 32 _ _ rfl B2 (stL hb bS) (stV hb bS) (by go_simp) (by go_simp) rfl HTH2.out (by kernel_rfl) (stL_one _ _) HWC2.out ?_))
  go_wp2_with fail
  refine (two_any wc2).mono ?_
  rintro e w5 ⟨h5, rfl, hk5, hx5⟩
  go_wp2_with fail
  refine (fStart_any h5 twoS 1 2 w5 hk5 two_good).mono ?_
  rintro e w6 hpr
  obtain ⟨cS, hc, hcl, hcp, rfl, hkc, hx6⟩ := two_s12R hpr
  have HCL := Lib.hid hcl
  have HCP := Lib.hid hcp
  have HKC := Lib.hid hkc
  have HX6 := Lib.hid (hx5.trans hx6)
  obtain ⟨wb3, wc3, hwb, hwc, hth, hbc, hxc⟩ := st_box w6 hc cS
  obtain ⟨B3, hB⟩ : ∃ B3, w6.heap.size = B3 := ⟨_, rfl⟩
  rw [hB] at hwc hth hbc
  have HWB3 := Lib.hid hwb
  have HB3 := Lib.hid hB
  have HWC3 := Lib.hid hwc
  have HTH3 := Lib.hid hth
  have HBS3 := Lib.hid hbc
  have HXC3 := Lib.hid hxc
  clear hwb hwc hth hbc hxc hB
  clear hpr hk5 hx5 hcl hcp hkc hx6
  go_upto_region 4 with (first | rw [HWB3.out, HB3.out] | (refine wpList_store_row rfl 32 _ _ rfl B3 (stL hc cS) (stV hc cS) (by go_simp) (by go_simp) rfl HTH3.out (by kernel_rfl) (stL_one _ _) HWC3.out ?_))
  go_wp2_with fail
  refine (two_any wc3).mono ?_
  rintro e w7 ⟨h7, rfl, hk7, hx7⟩
  go_wp2_with fail
  refine (fPick_any h7 twoS 2 1 w7 hk7 two_good (by decide)).mono ?_
  rintro e w8 hpr
  obtain ⟨rfl, hx8⟩ := two_p21R hpr
  have HX8 := Lib.hid (hx7.trans hx8)
  obtain ⟨wb4, wc4, hwb, hwc, hth, hbc, hxc⟩ := st_box w8 StH.nil St.nil
  obtain ⟨B4, hB⟩ : ∃ B4, w8.heap.size = B4 := ⟨_, rfl⟩
  rw [hB] at hwc hth hbc
  have HWB4 := Lib.hid hwb
  have HB4 := Lib.hid hB
  have HWC4 := Lib.hid hwc
  have HTH4 := Lib.hid hth
  have HBS4 := Lib.hid hbc
  have HXC4 := Lib.hid hxc
  clear hwb hwc hth hbc hxc hB
  clear hpr hk7 hx7 hx8
  have X3 : Hid (Ext wc3 wc4) := Lib.hid (HX8.out.trans HXC4.out)
  have X2 : Hid (Ext wc2 wc4) := Lib.hid (HX6.out.trans (HXC3.out.trans X3.out))
  have X1 : Hid (Ext wc1 wc4) := Lib.hid (HX4.out.trans (HXC2.out.trans X2.out))
  have X0 : Hid (Ext w wc4) := Lib.hid (HX2.out.trans (HXC1.out.trans X1.out))
  have BA := Lib.hid (X1.out.blk HBS1.out)
  have BC := Lib.hid (X3.out.blk HBS3.out)
  have KA := Lib.hid (HKA.out.ext (HXC1.out.trans X1.out))
  have KC := Lib.hid (HKC.out.ext (HXC3.out.trans X3.out))
  obtain ⟨⟨bufA, hdA, nnA⟩, hrA⟩ : ∃ r, r2 = r := ⟨_, rfl⟩
  obtain ⟨⟨bufB, hdB, nnB⟩, hrB⟩ : ∃ r, r1 = r := ⟨_, rfl⟩
  rw [hrA] at HTA HR2
  rw [hrB] at HTA HR1
  have hla : bufA.length = 8 := by obtain ⟨_, _, _, _, _, _, h, _⟩ := HR2.out; exact h
  have hlb : bufB.length = 8 := by obtain ⟨_, _, _, _, _, _, h, _⟩ := HR1.out; exact h
  obtain ⟨c0, c1, c2, c3, c4, c5, c6, c7, rfl⟩ := list8 hla
  obtain ⟨d0, d1, d2, d3, d4, d5, d6, d7, rfl⟩ := list8 hlb
  clear hla hlb hrA hrB
  have hta := HTA.out
  obtain ⟨bq, oq, hqa, hqb, hcc⟩ := ps_get KA.out.ps hta.p0
  obtain ⟨bq', oq', hqa', -, hcd⟩ := ps_get KA.out.ps hta.p1
  rw [hqa] at hqa'
  simp only [Option.some.injEq, Addr.mk.injEq, and_true] at hqa'
  obtain ⟨hqb1, hqo1⟩ := hqa'
  subst hqb1 hqo1
  have q2 : wc4.cell? ⟨B1, 2, none⟩ = some (.slice (some ⟨bq, oq, none⟩) 8 ha.qc) := by have := st2 BA.out; rw [hqa, hta.len] at this; exact this
  have HQA := Lib.hid hqa
  have HQB := Lib.hid hqb
  have HCC := Lib.hid hcc
  have HCD := Lib.hid hcd
  clear hqa hqb hcc hcd hta
  obtain ⟨⟨p0, p1, p2, p3, p4, p5, p6⟩, p7, p8, p9, p10, p11, p12⟩ := HCC.out
  simp only [Nat.zero_mul, Nat.add_zero] at p0 p1 p2 p3 p4 p5 p6 p7 p8 p9 p10 p11 p12
  go_wp2_with (first | rw [HWB4.out, HB4.out] | (refine wpList_store_row rfl 32 _ _ rfl B4 (stL StH.nil St.nil) (stV StH.nil St.nil) (by go_simp) (by go_simp) rfl HTH4.out (by kernel_rfl) (stL_one _ _) HWC4.out ?_))
  refine (rrlist_k c0 c1 c2 c3 c4 c5 c6 c7 hdA nnA [2] (Ri.list_of HR2.out) wc4).mono ?_
  rintro e wn1 ⟨v1, rfl, hov, hxn⟩
  have XN1 : Hid (Ext wc4 wn1) := Lib.hid (hxn)
  have HOV1 := Lib.hid hov
  obtain ⟨Av1, cv1, hv, _⟩ := hov.ints
  subst hv
  clear hxn hov q2 p0 p1 p2 p3 p4 p5 p6 p7 p8 p9 p10 p11 p12
  obtain ⟨wl1, hwl⟩ : ∃ wl1, wn1.alloc (.cells #[.int .i64 2] 3) = wl1 := ⟨_, rfl⟩
  have HWL1 := Lib.hid hwl
  have HI1 : Hid (IntsAt wl1 (.slice (some ⟨wn1.heap.size, 0, none⟩) 1 1) [2]) := Lib.hid (by rw [← hwl]; exact ints_lit wn1 [2])
  have HXL1 : Hid (Ext wn1 wl1) := Lib.hid (by rw [← hwl]; exact (Ext.refl _).alloc _)
  clear hwl
  go_wp2_with (rw [HWL1.out])
  refine (rints_eq _ _ [2] [2] true (by decide) _ (HOV1.out.ext HXL1.out).at.2 HI1.out (by decide)).mono ?_
  rintro e wm1 ⟨rfl, hxm⟩
  have XM1 : Hid (Ext wc4 wm1) := Lib.hid (XN1.out.trans (HXL1.out.trans hxm))
  clear hxm
  have q2 : wm1.cell? ⟨B1, 2, none⟩ = some (.slice (some ⟨bq, oq, none⟩) 8 ha.qc) := by have := st2 (XM1.out.blk BA.out); rw [HQA.out, HTA.out.len] at this; exact this
  obtain ⟨⟨p0, p1, p2, p3, p4, p5, p6⟩, p7, p8, p9, p10, p11, p12⟩ := HCD.out
  rw [← bcell XM1.out _ _ HQB.out] at p0 p1 p2 p3 p4 p5 p6 p7 p8 p9 p10 p11 p12
  simp only [Nat.one_mul] at p0 p1 p2 p3 p4 p5 p6 p7 p8 p9 p10 p11 p12
  go_wp2_with fail
  refine (rrlist_k d0 d1 d2 d3 d4 d5 d6 d7 hdB nnB [3] (Ri.list_of HR1.out) wm1).mono ?_
  rintro e wn2 ⟨v2, rfl, hov, hxn⟩
  have XN2 : Hid (Ext wc4 wn2) := Lib.hid ((XM1.out).trans hxn)
  have HOV2 := Lib.hid hov
  obtain ⟨Av2, cv2, hv, _⟩ := hov.ints
  subst hv
  clear hxn hov q2 p0 p1 p2 p3 p4 p5 p6 p7 p8 p9 p10 p11 p12
  obtain ⟨wl2, hwl⟩ : ∃ wl2, wn2.alloc (.cells #[.int .i64 3] 3) = wl2 := ⟨_, rfl⟩
  have HWL2 := Lib.hid hwl
  have HI2 : Hid (IntsAt wl2 (.slice (some ⟨wn2.heap.size, 0, none⟩) 1 1) [3]) := Lib.hid (by rw [← hwl]; exact ints_lit wn2 [3])
  have HXL2 : Hid (Ext wn2 wl2) := Lib.hid (by rw [← hwl]; exact (Ext.refl _).alloc _)
  clear hwl
  go_wp2_with (rw [HWL2.out])
  refine (rints_eq _ _ [3] [3] true (by decide) _ (HOV2.out.ext HXL2.out).at.2 HI2.out (by decide)).mono ?_
  rintro e wm2 ⟨rfl, hxm⟩
  have XM2 : Hid (Ext wc4 wm2) := Lib.hid (XN2.out.trans (HXL2.out.trans hxm))
  clear hxm
  obtain ⟨gy, hgy, hgs⟩ := HTA.out.g0
  obtain ⟨bg, og, hga, hgb, e0, e1, e2, e3, e4⟩ := gs_get KA.out.gs hgy
  rw [hgs] at e2
  have z1 : wm2.cell? ⟨B1, 1, none⟩ = some (.slice (some ⟨bg, og, none⟩) 3 ha.gc) := by have := st1 (XM2.out.blk BA.out); rw [hga, HTA.out.gl] at this; exact this
  rw [← bcell XM2.out _ _ hgb] at e2
  simp only [Nat.zero_mul, Nat.add_zero] at e2
  clear hgy hga e0 e1 e3 e4
  obtain ⟨br, orr, hra, hrb, hce⟩ := ps_get KC.out.ps HCP.out
  have q2 : wm2.cell? ⟨B3, 2, none⟩ = some (.slice (some ⟨br, orr, none⟩) 8 hc.qc) := by have := st2 (XM2.out.blk BC.out); rw [hra, HCL.out] at this; exact this
  obtain ⟨⟨p0, p1, p2, p3, p4, p5, p6⟩, p7, p8, p9, p10, p11, p12⟩ := hce
  rw [← bcell XM2.out _ _ hrb] at p0 p1 p2 p3 p4 p5 p6 p7 p8 p9 p10 p11 p12
  simp only [Nat.one_mul] at p0 p1 p2 p3 p4 p5 p6 p7 p8 p9 p10 p11 p12
  clear hra
  go_wp2_with fail
  refine (rrlist_k 1 3 0 0 0 0 0 0 0 2 [1, 3] (by kernel_rfl) wm2).mono ?_
  rintro e wn3 ⟨v3, rfl, hov, hxn⟩
  have XN3 : Hid (Ext wc4 wn3) := Lib.hid ((XM2.out).trans hxn)
  have HOV3 := Lib.hid hov
  obtain ⟨Av3, cv3, hv, _⟩ := hov.ints
  subst hv
  clear hxn hov q2 z1 e2 hgb hgs hrb p0 p1 p2 p3 p4 p5 p6 p7 p8 p9 p10 p11 p12
  obtain ⟨wl3, hwl⟩ : ∃ wl3, wn3.alloc (.cells #[.int .i64 1, .int .i64 3] 3) = wl3 := ⟨_, rfl⟩
  have HWL3 := Lib.hid hwl
  have HI3 : Hid (IntsAt wl3 (.slice (some ⟨wn3.heap.size, 0, none⟩) 2 2) [1, 3]) := Lib.hid (by rw [← hwl]; exact ints_lit wn3 [1, 3])
  have HXL3 : Hid (Ext wn3 wl3) := Lib.hid (by rw [← hwl]; exact (Ext.refl _).alloc _)
  clear hwl
  go_wp2_with (rw [HWL3.out])
  refine (rints_eq _ _ [1, 3] [1, 3] true (by decide) _ (HOV3.out.ext HXL3.out).at.2 HI3.out (by decide)).mono ?_
  rintro e wm3 ⟨rfl, hxm⟩
  have XM3 : Hid (Ext wc4 wm3) := Lib.hid (XN3.out.trans (HXL3.out.trans hxm))
  clear hxm
  go_wp2
  go_ret
  exact ⟨rfl, X0.out.trans XM3.out⟩
end Go.Proofs.Ytogcfndhcphpaaa
namespace Go.Proofs.Ytogcfndhcphpaaa
open Go.RowKit
theorem pick_order {s t : St} {i : Nat} {x : Pr} {vc g : Int} (h : St.PickC s i x vc t g) : (∃ l, St.queueOf x = g :: l) ∨ (St.queueOf x = [] ∧ (s.glob = [] ∨ ∃ l, s.glob = g :: l)) := by
  cases h with
  | next h => exact .inl ⟨x.ring.list, by unfold St.queueOf; rw [if_pos h]; rfl⟩
  | ring h hl hr => exact .inl ⟨_, by unfold St.queueOf; rw [if_neg (by simp [h]), hl]; rfl⟩
  | glob h hg => exact .inr ⟨h, .inr ⟨_, hg⟩⟩
  | half h hg hv hne hu hvx hl hr1 hr2 => exact .inr ⟨h, .inl hg⟩
  | vnext h hg hv hne hu hvx hl => exact .inr ⟨h, .inl hg⟩
  | none h hg hv => exact .inr ⟨h, .inl hg⟩
theorem pick_looks {w w' : World} {s : St} {p vc : Int} {e : Ending} (hl : s.looks p = true) (h : PickR w s p vc e w') :
    ∃ (i j : Nat) (x : Pr) (t : St) (g : Int) (h' : StH), p = (i : Int) + 1 ∧ St.Idle s i j x ∧ St.PickC s i x vc t g ∧ e = .returned (.tuple #[stV h' (t.after p g), .int .i64 g, .int .i64 0]) ∧ StOk w' h' (t.after p g) ∧ Ext w w' := by
  rcases h with ⟨h, _⟩ | h
  · rw [hl] at h; cases h
  · exact h
set_option maxRecDepth 100000 in
set_option maxHeartbeats 32000000 in
theorem walk_FindOrder (h : StH) (s : St) (p vc : Int) (w : World) (hk : StOk w h s) (hi : StIn s) (_ : (Lit.int .i64 p).wf = true) (_ : (Lit.int .i64 vc).wf = true) : Calls Try.prog 11 #[stV h s, .int .i64 p, .int .i64 vc] w fun e w' => e = .returned (.bool true) ∧ Ext w w' := by
  have HI := Lib.hid hi
  have HK := Lib.hid hk
  obtain ⟨w1, hw1⟩ : ∃ w1, w.alloc (.cells #[.slice h.pa s.prog.length h.pc, .slice h.ga s.gs.length h.gc, .slice h.qa s.ps.length h.qc, .slice h.ma s.ms.length h.mc, .slice h.la s.glob.length h.lc, .int .i64 s.c0, .int .i64 s.c1, .int .i64 s.c2, .int .i64 s.c3, .slice h.a0 s.w0.length h.k0, .slice h.a1 s.w1.length h.k1, .slice h.a2 s.w2.length h.k2, .slice h.a3 s.w3.length h.k3, .slice h.ta s.timers.length h.tc, .int .i64 s.clock, .int .i64 s.procs] 32) = w1 := ⟨_, rfl⟩
  have HX1 : Hid (Ext w w1) := Lib.hid (by rw [← hw1]; exact (Ext.refl w).alloc _)
  have HB1 : Hid (w1.heap[w.heap.size]? = some (.cells (stC h s) 32 (0, 0))) := Lib.hid (by rw [← hw1]; exact blk_new w _)
  have HK1 := Lib.hid (hk.ext HX1.out)
  have HW1 := Lib.hid hw1
  clear hw1 hk
  clear hi
  unfold stV
  go_enter Try.func11, Try.ntmps11
  go_upto_region 1 with fail
  rw [HW1.out]
  generalize Value.agg #[.slice h.pa s.prog.length h.pc, .slice h.ga s.gs.length h.gc, .slice h.qa s.ps.length h.qc, .slice h.ma s.ms.length h.mc, .slice h.la s.glob.length h.lc, .int .i64 s.c0, .int .i64 s.c1, .int .i64 s.c2, .int .i64 s.c3, .slice h.a0 s.w0.length h.k0, .slice h.a1 s.w1.length h.k1, .slice h.a2 s.w2.length h.k2, .slice h.a3 s.w3.length h.k3, .slice h.ta s.timers.length h.tc, .int .i64 s.clock, .int .i64 s.procs] = sv0
  obtain ⟨W0, hW0⟩ : ∃ W0, w.heap.size = W0 := ⟨_, rfl⟩
  rw [hW0] at HB1
  rw [hW0]
  have HW0 := Lib.hid hW0
  clear hW0
  go_wp2_with fail
  refine (r14fixed_yes w1).mono ?_
  rintro e w2 ⟨rfl, hx2⟩
  have HX2 := Lib.hid hx2
  have HLD := Lib.hid (hx2.blk HB1.out)
  clear hx2
  go_wp2_with (refine wpList_load_rowW (by rfl) 32 _ rfl W0 (by go_simp) (stL h s) (stV h s) rfl _ (range_row HLD.out) Try.underlying32 rfl (by kernel_rfl) ?_)
  refine (rstsmall_any h s _ rfl w2 (HK1.out.ext HX2.out) HI.out).mono ?_
  rintro e w3 ⟨rfl, hx3⟩
  have HX4 := Lib.hid (HX2.out.trans hx3)
  clear hx3 HLD
  cases bs : s.small with
  | false =>
    go_wp2_with fail
    refine (r14fixed_yes _).mono ?_
    rintro e w9 ⟨rfl, hx9⟩
    have HX9 := Lib.hid (HX1.out.trans (HX4.out.trans hx9))
    clear hx9
    go_wp2
    go_ret
    exact ⟨rfl, HX9.out⟩
  | true =>
  have HF := Lib.hid (St.small_few bs HI.out)
  have HSM := Lib.hid bs
  have HGL := Lib.hid (St.small_glob bs)
  have HSG : Hid (StGood s) := Lib.hid ⟨HF.out, HK1.out.buf, St.small_timers HSM.out⟩
  have HLD := Lib.hid (HX4.out.blk HB1.out)
  clear bs
  go_wp2_with (refine wpList_load_rowW (by rfl) 32 _ rfl W0 (by go_simp) (stL h s) (stV h s) rfl _ (range_row HLD.out) Try.underlying32 rfl (by kernel_rfl) ?_)
  refine (r14looks_any h s p _ rfl w3 (HK1.out.ext HX4.out) HF.out).mono ?_
  rintro e w4 ⟨rfl, hx4⟩
  have HX5 := Lib.hid (HX4.out.trans hx4)
  clear hx4 HLD HX4
  have HX4 := Lib.hid HX5.out
  clear HX5
  cases bm : s.looks p with
  | false =>
    go_wp2_with fail
    refine (r14fixed_yes _).mono ?_
    rintro e w9 ⟨rfl, hx9⟩
    have HX9 := Lib.hid (HX1.out.trans (HX4.out.trans hx9))
    clear hx9
    go_wp2
    go_ret
    exact ⟨rfl, HX9.out⟩
  | true =>
  have HLK := Lib.hid bm
  clear bm
  have HLD := Lib.hid (HX4.out.blk HB1.out)
  have HK4 := Lib.hid (HK1.out.ext HX4.out)
  go_wp2_with (refine wpList_load_rowW (by rfl) 32 _ rfl W0 (by go_simp) (stL h s) (stV h s) rfl _ (range_row HLD.out) Try.underlying32 rfl (by kernel_rfl) ?_)
  refine (fPick_any h s p vc w4 HK4.out HSG.out HGL.out).mono ?_
  rintro e w5 hpr
  obtain ⟨i, j, x, t, g, h5, hpi, hid, hpc, rfl, hk5, hx5⟩ := pick_looks HLK.out hpr
  have HORD := Lib.hid (pick_order hpc)
  have HQX := Lib.hid (St.queue_yes hid.use hid.may hid.at_)
  rw [← hpi] at HQX
  have HX5 := Lib.hid hx5
  clear hpr hpi hid hpc hk5 hx5
  obtain ⟨tS, htS⟩ : ∃ tS, t.after p g = tS := ⟨_, rfl⟩
  rw [htS]
  clear htS
  obtain ⟨wb5, wc5, hwb, hwc, hth, hbc, hxc⟩ := st_box w5 h5 tS
  obtain ⟨B5, hB⟩ : ∃ B5, w5.heap.size = B5 := ⟨_, rfl⟩
  rw [hB] at hwc hth hbc
  have HWB5 := Lib.hid hwb
  have HB5 := Lib.hid hB
  have HWC5 := Lib.hid hwc
  have HTH5 := Lib.hid hth
  have HBS5 := Lib.hid hbc
  have HXC5 := Lib.hid hxc
  clear hwb hwc hth hbc hxc hB
  go_upto_region 4 with (first | rw [HWB5.out, HB5.out] | (refine wpList_store_row rfl 32 _ _ rfl B5 (stL h5 tS) (stV h5 tS) (by go_simp) (by go_simp) rfl HTH5.out (by kernel_rfl) (stL_one _ _) HWC5.out ?_) | (refine wpList_load_rowW (by rfl) 32 _ rfl W0 (by go_simp) (stL h s) (stV h s) rfl _ (range_row HLD.out) Try.underlying32 rfl (by kernel_rfl) ?_))
  have X5 : Hid (Ext w4 wc5) := Lib.hid (HX5.out.trans HXC5.out)
  have HLD5 := Lib.hid (X5.out.blk HLD.out)
  have HK5 := Lib.hid (HK4.out.ext X5.out)
  go_wp2_with (refine wpList_load_rowW (by rfl) 32 _ rfl W0 (by go_simp) (stL h s) (stV h s) rfl _ (range_row HLD5.out) Try.underlying32 rfl (by kernel_rfl) ?_)
  refine (rQueue_any h s p _ HQX.out wc5 HK5.out HF.out).mono ?_
  rintro e w6 ⟨A6, c6, rfl, ho6, hx6⟩
  have X6 : Hid (Ext w4 w6) := Lib.hid (X5.out.trans hx6)
  have HX9 := Lib.hid (HX1.out.trans (HX4.out.trans X6.out))
  have HO6 := Lib.hid ho6
  have HLD6 := Lib.hid (X6.out.blk HLD.out)
  have HK6 := Lib.hid (HK4.out.ext X6.out)
  clear hx6 ho6
  rcases HORD.out with ⟨l, hq⟩ | ⟨hq, hgl⟩
  · rw [hq] at HO6 ⊢
    obtain ⟨bq, oq, rfl, hqb, hqc⟩ := ints_get HO6.out.at.2 (k := 0) (x := g) rfl
    rw [Nat.add_zero] at hqc
    have hpos : decide ((0 : Int) < ((g :: l).length : Int)) = true := decide_eq_true (by simp only [List.length_cons]; omega)
    go_wp2
    go_ret
    exact ⟨rfl, HX9.out⟩
  · rw [hq] at HO6 ⊢
    have q4 := st4 HLD6.out
    rcases hgl with hgl | ⟨l, hgl⟩
    · rw [hgl] at q4
      go_wp2
      go_ret
      exact ⟨rfl, HX9.out⟩
    · rw [hgl] at q4
      have hig := HK6.out.glob
      rw [hgl] at hig
      obtain ⟨bq, oq, hla, hqb, hqc⟩ := ints_get hig (k := 0) (x := g) rfl
      rw [Nat.add_zero] at hqc
      rw [hla] at q4
      simp only [List.length_cons] at q4
      have hz : ((((l.length + 1 : Nat) : Int)) == 0) = false := by simp; omega
      clear hig hla
      go_wp2
      go_ret
      exact ⟨rfl, HX9.out⟩
end Go.Proofs.Ytogcfndhcphpaaa
