/-
  Several texts in one: Ty, Tzg.
-/
import Derived.Test.YtogcfndhcphpaaaK14
import Derived.Test.YtogcfndhcphpaaaK09
import Derived.Test.YtogcfndhcphpaaaK10
/-
  Where a G that can run is, and one that waits: the program's queued and waiting.
-/
set_option linter.unusedVariables false
set_option linter.unusedSimpArgs false
namespace Go.Proofs.Ytogcfndhcphpaaa
open Go.RowKit

def plV (q : Int × Int) : Value := .agg #[.int .i64 q.1, .int .i64 q.2]
def placeAt (n : Int) : List Pr → Nat → Int × Int
  | [], _ => (3, 0)
  | p :: ps, i => if p.next = n then (1, (i : Int) + 1) else if n ∈ p.ring.list then (2, (i : Int) + 1) else placeAt n ps (i + 1)
def waitAt (n : Int) : List (List Int) → Nat → Int × Int
  | [], _ => (6, 0)
  | l :: ls, i => if n ∈ l then (5, (i : Int)) else waitAt n ls (i + 1)
theorem drop_next {α : Type} {l : List α} {k : Nat} {x : α} (h : l[k]? = some x) : l.drop k = x :: l.drop (k + 1) := by
  obtain ⟨h1, h2⟩ := List.getElem?_eq_some_iff.1 h
  rw [List.drop_eq_getElem_cons h1, h2]
theorem place_set {w : World} {B : Nat} {x y u v : Value} {T : TypeId} (h : w.heap[B]? = some (.cells #[u, v] T (0, 0))) : ((w.setCell ⟨B, 0, none⟩ x).setCell ⟨B, 1, none⟩ y).heap[B]? = some (.cells #[x, y] T (0, 0)) := blk_set (blk_set h 0 _) 1 _
theorem place_cells {w : World} {B : Nat} {u v : Value} {T : TypeId} (h : w.heap[B]? = some (.cells #[u, v] T (0, 0))) : (w.cell? ⟨B, 0, none⟩ = some u ∧ w.cell? ⟨B, 1, none⟩ = some v) ∧ w.frozen? ⟨B, 0, none⟩ = false ∧ w.frozen? ⟨B, 1, none⟩ = false :=
  ⟨⟨blk_cell h 0 _ rfl, blk_cell h 1 _ rfl⟩, frozen_of_row _ _ 0 _ _ h, frozen_of_row _ _ 1 _ _ h⟩
theorem Ext.set2 {a w : World} {B : Nat} (h : Ext a w) (hB : a.heap.size ≤ B) (x y : Value) : Ext a ((w.setCell ⟨B, 0, none⟩ x).setCell ⟨B, 1, none⟩ y) := (h.setCell (p := ⟨B, 0, none⟩) hB x).setCell (p := ⟨B, 1, none⟩) hB y
set_option maxRecDepth 100000 in
set_option maxHeartbeats 4000000 in
theorem squeued_any (h : StH) (s : St) (n : Int) (q : Int × Int) (hq : placeAt n s.ps 0 = q) (w : World) (hk : StOk w h s) (hf : StFew s) : Calls Try.prog 94 #[stV h s, .int .i64 n] w fun e w' => e = .returned (plV q) ∧ Ext w w' := by
  have f1 := hf.ps
  have HK := Lib.hid hk
  obtain ⟨w1, hw1⟩ : ∃ w1, w.alloc (.cells #[.slice h.pa s.prog.length h.pc, .slice h.ga s.gs.length h.gc, .slice h.qa s.ps.length h.qc, .slice h.ma s.ms.length h.mc, .slice h.la s.glob.length h.lc, .int .i64 s.c0, .int .i64 s.c1, .int .i64 s.c2, .int .i64 s.c3, .slice h.a0 s.w0.length h.k0, .slice h.a1 s.w1.length h.k1, .slice h.a2 s.w2.length h.k2, .slice h.a3 s.w3.length h.k3, .slice h.ta s.timers.length h.tc, .int .i64 s.clock, .int .i64 s.procs] 32) = w1 := ⟨_, rfl⟩
  have HX1 : Hid (Ext w w1) := Lib.hid (by rw [← hw1]; exact (Ext.refl w).alloc _)
  have HB1 : Hid (w1.heap[w.heap.size]? = some (.cells (stC h s) 32 (0, 0))) := Lib.hid (by rw [← hw1]; exact blk_new w _)
  have HK1 := Lib.hid (hk.ext HX1.out)
  have HW1 := Lib.hid hw1
  clear hw1 hk
  clear hf
  obtain ⟨B, hB⟩ : ∃ B, w1.heap.size = B := ⟨_, rfl⟩
  have HB := Lib.hid hB
  obtain ⟨w2, hw2⟩ : ∃ w2, w1.alloc (.cells #[.int .i64 0, .int .i64 0] 52) = w2 := ⟨_, rfl⟩
  have HW2 := Lib.hid hw2
  have HX2 : Hid (Ext w1 w2) := Lib.hid (by rw [← hw2]; exact (Ext.refl w1).alloc _)
  have HP2 : Hid (w2.heap[B]? = some (.cells #[.int .i64 0, .int .i64 0] 52 (0, 0))) := Lib.hid (by rw [← hw2, ← hB]; exact blk_new w1 _)
  have HBW : Hid (w.heap.size ≤ B) := Lib.hid (by rw [← hB]; exact HX1.out.size)
  clear hB hw2
  have HQ0 := Lib.hid hq
  clear hq
  have q2 := st2 (HX2.out.blk HB1.out)
  unfold stV
  go_enter Try.func94, Try.ntmps94
  go_upto_region 1 with (first | rw [HW1.out] | rw [HW2.out])
  rw [HB.out]
  generalize Value.agg #[.slice h.pa s.prog.length h.pc, .slice h.ga s.gs.length h.gc, .slice h.qa s.ps.length h.qc, .slice h.ma s.ms.length h.mc, .slice h.la s.glob.length h.lc, .int .i64 s.c0, .int .i64 s.c1, .int .i64 s.c2, .int .i64 s.c3, .slice h.a0 s.w0.length h.k0, .slice h.a1 s.w1.length h.k1, .slice h.a2 s.w2.length h.k2, .slice h.a3 s.w3.length h.k3, .slice h.ta s.timers.length h.tc, .int .i64 s.clock, .int .i64 s.procs] = sv0
  go_wp2_with fail
  clear q2
  obtain ⟨qa, hqa⟩ : ∃ qa, h.qa = qa := ⟨_, rfl⟩
  have HQA := Lib.hid hqa
  rw [hqa]
  clear hqa
  go_loopw [10] (fun iv wr => ∃ k : Nat, k ≤ s.ps.length ∧ iv = .int .i64 k ∧ placeAt n (s.ps.drop k) k = q ∧ Ext w2 wr) (fun iv _ => s.ps.length - (intOf iv).toNat)
  case atStart => exact ⟨0, by omega, rfl, HQ0.out, Ext.refl _⟩
  case round =>
    obtain ⟨k, hk, rfl, hpl, hx⟩ := hrel
    have HX := Lib.hid hx
    have HPL := Lib.hid hpl
    clear hx hpl
    by_cases hlt : k < s.ps.length
    · obtain ⟨p, hp⟩ : ∃ p, s.ps[k]? = some p := ⟨_, List.getElem?_eq_getElem hlt⟩
      obtain ⟨m, nx, r, sq⟩ := p
      obtain ⟨b0, b1, b2, b3, b4, b5, b6, b7, hd, nn, rfl⟩ := Ri.open8 (HK.out.buf _ (List.mem_of_getElem? hp))
      obtain ⟨b, o, hA, hb, hc⟩ := ps_get (HK1.out.ext (HX2.out.trans HX.out)).ps hp
      rw [HQA.out] at hA
      subst hA
      obtain ⟨⟨p0, p1, p2, p3, p4, p5, p6⟩, p7, p8, p9, p10, p11, p12⟩ := hc
      obtain ⟨l, hl⟩ : ∃ l, Ri.list ⟨[b0, b1, b2, b3, b4, b5, b6, b7], hd, nn⟩ = l := ⟨_, rfl⟩
      have HL := Lib.hid hl
      have hl8 : Hid (l.length ≤ 8) := Lib.hid (by rw [← hl]; exact Ri.list_len _)
      have HD : Hid (placeAt n (s.ps.drop k) k = if nx = n then (1, (k : Int) + 1) else if n ∈ l then (2, (k : Int) + 1) else placeAt n (s.ps.drop (k + 1)) (k + 1)) := Lib.hid (by rw [drop_next hp, placeAt, ← hl])
      obtain ⟨w4, hw4⟩ : ∃ w4, wr.alloc (.cells #[.int .i64 m, .int .i64 nx, .int .i64 b0, .int .i64 b1, .int .i64 b2, .int .i64 b3, .int .i64 b4, .int .i64 b5, .int .i64 b6, .int .i64 b7, .int .i64 hd, .int .i64 nn, .int .i64 sq] 40) = w4 := ⟨_, rfl⟩
      have HW4 := Lib.hid hw4
      have HX4 : Hid (Ext wr w4) := Lib.hid (by rw [← hw4]; exact (Ext.refl wr).alloc _)
      have HB4 : Hid (w4.heap[wr.heap.size]? = some (.cells #[.int .i64 m, .int .i64 nx, .int .i64 b0, .int .i64 b1, .int .i64 b2, .int .i64 b3, .int .i64 b4, .int .i64 b5, .int .i64 b6, .int .i64 b7, .int .i64 hd, .int .i64 nn, .int .i64 sq] 40 (0, 0))) := Lib.hid (by rw [← hw4]; exact blk_new wr _)
      clear hp hb hl hw4
      go_upto_region 4 with fail
      rw [HW4.out]
      clear p0 p1 p2 p3 p4 p5 p6 p7 p8 p9 p10 p11 p12
      by_cases h1 : nx = n
      · have HQ : Hid ((1, (k : Int) + 1) = q) := Lib.hid (by rw [← HPL.out, HD.out, if_pos h1])
        have h1' : (nx == n) = true := by simpa using h1
        have z1 := blk_cell HB4.out 1 _ rfl
        have HPR := Lib.hid ((HX.out.trans HX4.out).blk HP2.out)
        have HXR := Lib.hid (HX2.out.trans (HX.out.trans HX4.out))
        obtain ⟨⟨r0, r1⟩, y0, y1⟩ := place_cells HPR.out
        clear h1
        go_wp2
        refine bodyPost_ret (v := .agg #[.int .i64 _, .int .i64 _]) (results_cell_row rfl _ _ B _ _ _ _ rfl (place_set HPR.out) Try.underlying52 rfl (by kernel_rfl)) rfl ⟨by rw [← HQ.out] <;> rfl, (HX1.out.trans HXR.out).set2 HBW.out _ _⟩
      · have h1' : (nx == n) = false := by simpa using h1
        have HD2 : Hid (placeAt n (s.ps.drop k) k = if n ∈ l then (2, (k : Int) + 1) else placeAt n (s.ps.drop (k + 1)) (k + 1)) := Lib.hid (by rw [HD.out, if_neg h1])
        clear h1
        obtain ⟨⟨p0, p1, p2, p3, p4, p5, p6⟩, p7, p8, p9, p10, p11, p12⟩ := cells13 HB4.out
        go_wp2_with fail
        refine (rlist_k b0 b1 b2 b3 b4 b5 b6 b7 hd nn l HL.out _).mono ?_
        rintro e w5 ⟨v5, rfl, hi5, hx5⟩
        obtain ⟨A5, c5, rfl⟩ := hi5.form
        clear p0 p1 p2 p3 p4 p5 p6 p7 p8 p9 p10 p11 p12
        have HX5 := Lib.hid (HX.out.trans (HX4.out.trans hx5))
        have HCN := Lib.hid (scontains_any _ l n _ rfl _ hi5 (by have := hl8.out; omega))
        clear hi5 hx5
        go_wp2_with fail
        refine HCN.out.mono ?_
        rintro e w' ⟨rfl, rfl⟩
        by_cases hm : n ∈ l
        · have HQ : Hid ((2, (k : Int) + 1) = q) := Lib.hid (by rw [← HPL.out, HD2.out, if_pos hm])
          rw [decide_eq_true hm]
          have HPR := Lib.hid (HX5.out.blk HP2.out)
          have HXR := Lib.hid (HX2.out.trans HX5.out)
          obtain ⟨⟨r0, r1⟩, y0, y1⟩ := place_cells HPR.out
          clear hm
          go_wp2
          refine bodyPost_ret (v := .agg #[.int .i64 _, .int .i64 _]) (results_cell_row rfl _ _ B _ _ _ _ rfl (place_set HPR.out) Try.underlying52 rfl (by kernel_rfl)) rfl ⟨by rw [← HQ.out] <;> rfl, (HX1.out.trans HXR.out).set2 HBW.out _ _⟩
        · have HN : Hid (placeAt n (s.ps.drop (k + 1)) (k + 1) = q) := Lib.hid (by rw [← HPL.out, HD2.out, if_neg hm])
          rw [decide_eq_false hm]
          clear hm
          go_wp2
          go_roundw
          case rel => exact ⟨k + 1, by omega, by go_num, HN.out, HX5.out⟩
          case measure => simp [intOf]; omega
    · obtain rfl : k = s.ps.length := by omega
      have HQ : Hid ((3, 0) = q) := Lib.hid (by rw [← HPL.out, List.drop_length]; rfl)
      have HPR := Lib.hid (HX.out.blk HP2.out)
      have HXR := Lib.hid (HX2.out.trans HX.out)
      obtain ⟨⟨r0, r1⟩, y0, y1⟩ := place_cells HPR.out
      go_wp2
      refine bodyPost_ret (v := .agg #[.int .i64 _, .int .i64 _]) (results_cell_row rfl _ _ B _ _ _ _ rfl (place_set HPR.out) Try.underlying52 rfl (by kernel_rfl)) rfl ⟨by rw [← HQ.out] <;> rfl, (HX1.out.trans HXR.out).set2 HBW.out _ _⟩
set_option maxRecDepth 100000 in
set_option maxHeartbeats 4000000 in
theorem ratP_any (h : StH) (s : St) (n : Int) (q : Int × Int) (hq : placeAt n s.ps 0 = q) (w : World) (hk : StOk w h s) (hf : StFew s) : Calls Try.prog 82 #[stV h s, .int .i64 n] w fun e w' => e = .returned (plV q) ∧ Ext w w' := by
  have f1 := hf.ps
  have HK := Lib.hid hk
  obtain ⟨w1, hw1⟩ : ∃ w1, w.alloc (.cells #[.slice h.pa s.prog.length h.pc, .slice h.ga s.gs.length h.gc, .slice h.qa s.ps.length h.qc, .slice h.ma s.ms.length h.mc, .slice h.la s.glob.length h.lc, .int .i64 s.c0, .int .i64 s.c1, .int .i64 s.c2, .int .i64 s.c3, .slice h.a0 s.w0.length h.k0, .slice h.a1 s.w1.length h.k1, .slice h.a2 s.w2.length h.k2, .slice h.a3 s.w3.length h.k3, .slice h.ta s.timers.length h.tc, .int .i64 s.clock, .int .i64 s.procs] 32) = w1 := ⟨_, rfl⟩
  have HX1 : Hid (Ext w w1) := Lib.hid (by rw [← hw1]; exact (Ext.refl w).alloc _)
  have HB1 : Hid (w1.heap[w.heap.size]? = some (.cells (stC h s) 32 (0, 0))) := Lib.hid (by rw [← hw1]; exact blk_new w _)
  have HK1 := Lib.hid (hk.ext HX1.out)
  have HW1 := Lib.hid hw1
  clear hw1 hk
  clear hf
  obtain ⟨B, hB⟩ : ∃ B, w1.heap.size = B := ⟨_, rfl⟩
  have HB := Lib.hid hB
  obtain ⟨w2, hw2⟩ : ∃ w2, w1.alloc (.cells #[.int .i64 0, .int .i64 0] 52) = w2 := ⟨_, rfl⟩
  have HW2 := Lib.hid hw2
  have HX2 : Hid (Ext w1 w2) := Lib.hid (by rw [← hw2]; exact (Ext.refl w1).alloc _)
  have HP2 : Hid (w2.heap[B]? = some (.cells #[.int .i64 0, .int .i64 0] 52 (0, 0))) := Lib.hid (by rw [← hw2, ← hB]; exact blk_new w1 _)
  have HBW : Hid (w.heap.size ≤ B) := Lib.hid (by rw [← hB]; exact HX1.out.size)
  clear hB hw2
  have HQ0 := Lib.hid hq
  clear hq
  unfold stV
  go_enter Try.func82, Try.ntmps82
  go_upto_region 1 with (first | rw [HW1.out] | rw [HW2.out])
  rw [HB.out]
  generalize Value.agg #[.slice h.pa s.prog.length h.pc, .slice h.ga s.gs.length h.gc, .slice h.qa s.ps.length h.qc, .slice h.ma s.ms.length h.mc, .slice h.la s.glob.length h.lc, .int .i64 s.c0, .int .i64 s.c1, .int .i64 s.c2, .int .i64 s.c3, .slice h.a0 s.w0.length h.k0, .slice h.a1 s.w1.length h.k1, .slice h.a2 s.w2.length h.k2, .slice h.a3 s.w3.length h.k3, .slice h.ta s.timers.length h.tc, .int .i64 s.clock, .int .i64 s.procs] = sv0
  go_wp2_with fail
  go_loopw [5] (fun iv wr => ∃ k : Nat, k ≤ s.ps.length ∧ iv = .int .i64 k ∧ placeAt n (s.ps.drop k) k = q ∧ Ext w2 wr) (fun iv _ => s.ps.length - (intOf iv).toNat)
  case atStart => exact ⟨0, by omega, rfl, HQ0.out, Ext.refl _⟩
  case round =>
    obtain ⟨k, hk, rfl, hpl, hx⟩ := hrel
    have HX := Lib.hid hx
    have HPL := Lib.hid hpl
    clear hx hpl
    have q2 := st2 ((HX2.out.trans HX.out).blk HB1.out)
    by_cases hlt : k < s.ps.length
    · obtain ⟨p, hp⟩ : ∃ p, s.ps[k]? = some p := ⟨_, List.getElem?_eq_getElem hlt⟩
      obtain ⟨m, nx, r, sq⟩ := p
      obtain ⟨b0, b1, b2, b3, b4, b5, b6, b7, hd, nn, rfl⟩ := Ri.open8 (HK.out.buf _ (List.mem_of_getElem? hp))
      obtain ⟨b, o, hA, hb, hc⟩ := ps_get (HK1.out.ext (HX2.out.trans HX.out)).ps hp
      rw [hA] at q2
      obtain ⟨⟨p0, p1, p2, p3, p4, p5, p6⟩, p7, p8, p9, p10, p11, p12⟩ := hc
      obtain ⟨l, hl⟩ : ∃ l, Ri.list ⟨[b0, b1, b2, b3, b4, b5, b6, b7], hd, nn⟩ = l := ⟨_, rfl⟩
      have HL := Lib.hid hl
      have hl8 : Hid (l.length ≤ 8) := Lib.hid (by rw [← hl]; exact Ri.list_len _)
      have HD : Hid (placeAt n (s.ps.drop k) k = if nx = n then (1, (k : Int) + 1) else if n ∈ l then (2, (k : Int) + 1) else placeAt n (s.ps.drop (k + 1)) (k + 1)) := Lib.hid (by rw [drop_next hp, placeAt, ← hl])
      clear hp hb hl hA
      by_cases h1 : nx = n
      · have HQ : Hid ((1, (k : Int) + 1) = q) := Lib.hid (by rw [← HPL.out, HD.out, if_pos h1])
        have h1' : (nx == n) = true := by simpa using h1
        have HPR := Lib.hid (HX.out.blk HP2.out)
        have HXR := Lib.hid (HX2.out.trans HX.out)
        obtain ⟨⟨r0, r1⟩, y0, y1⟩ := place_cells HPR.out
        clear h1
        go_wp2
        refine bodyPost_ret (v := .agg #[.int .i64 _, .int .i64 _]) (results_cell_row rfl _ _ B _ _ _ _ rfl (place_set HPR.out) Try.underlying52 rfl (by kernel_rfl)) rfl ⟨by rw [← HQ.out] <;> rfl, (HX1.out.trans HXR.out).set2 HBW.out _ _⟩
      · have h1' : (nx == n) = false := by simpa using h1
        have HD2 : Hid (placeAt n (s.ps.drop k) k = if n ∈ l then (2, (k : Int) + 1) else placeAt n (s.ps.drop (k + 1)) (k + 1)) := Lib.hid (by rw [HD.out, if_neg h1])
        clear h1
        go_wp2_with fail
        refine (rrlist_k b0 b1 b2 b3 b4 b5 b6 b7 hd nn l HL.out _).mono ?_
        rintro e w5 ⟨v5, rfl, ho5, hx5⟩
        obtain ⟨A5, c5, rfl⟩ := ho5.form
        clear p0 p1 p2 p3 p4 p5 p6 p7 p8 p9 p10 p11 p12
        have HX5 := Lib.hid (HX.out.trans hx5)
        have HCN := Lib.hid (rtimes_any _ l n _ ho5.at.2 (by have := hl8.out; omega))
        have HTL : Hid (St.times l n ≤ 8) := Lib.hid (Nat.le_trans (times_le l n) hl8.out)
        clear ho5 hx5 q2
        go_wp2_with fail
        refine HCN.out.mono ?_
        rintro e w' ⟨rfl, rfl⟩
        by_cases hm : n ∈ l
        · have HQ : Hid ((2, (k : Int) + 1) = q) := Lib.hid (by rw [← HPL.out, HD2.out, if_pos hm])
          have hmt : ((0 : Int) < (St.times l n : Int)) := by have := List.count_pos_iff.2 hm; unfold St.times; omega
          have HPR := Lib.hid (HX5.out.blk HP2.out)
          have HXR := Lib.hid (HX2.out.trans HX5.out)
          obtain ⟨⟨r0, r1⟩, y0, y1⟩ := place_cells HPR.out
          clear hm
          go_wp2
          refine bodyPost_ret (v := .agg #[.int .i64 _, .int .i64 _]) (results_cell_row rfl _ _ B _ _ _ _ rfl (place_set HPR.out) Try.underlying52 rfl (by kernel_rfl)) rfl ⟨by rw [← HQ.out] <;> rfl, (HX1.out.trans HXR.out).set2 HBW.out _ _⟩
        · have HN : Hid (placeAt n (s.ps.drop (k + 1)) (k + 1) = q) := Lib.hid (by rw [← HPL.out, HD2.out, if_neg hm])
          have hmt : St.times l n = 0 := by unfold St.times; exact List.count_eq_zero.2 hm
          rw [hmt]
          clear hm hmt
          go_wp2
          go_roundw
          case rel => exact ⟨k + 1, by omega, by go_num, HN.out, HX5.out⟩
          case measure => simp [intOf]; omega
    · obtain rfl : k = s.ps.length := by omega
      have HQ : Hid ((3, 0) = q) := Lib.hid (by rw [← HPL.out, List.drop_length]; rfl)
      have HPR := Lib.hid (HX.out.blk HP2.out)
      have HXR := Lib.hid (HX2.out.trans HX.out)
      obtain ⟨⟨r0, r1⟩, y0, y1⟩ := place_cells HPR.out
      go_wp2
      refine bodyPost_ret (v := .agg #[.int .i64 _, .int .i64 _]) (results_cell_row rfl _ _ B _ _ _ _ rfl (place_set HPR.out) Try.underlying52 rfl (by kernel_rfl)) rfl ⟨by rw [← HQ.out] <;> rfl, (HX1.out.trans HXR.out).set2 HBW.out _ _⟩
set_option maxRecDepth 100000 in
set_option maxHeartbeats 4000000 in
theorem swaiting_any (h : StH) (s : St) (n : Int) (q : Int × Int) (hq : waitAt n s.wts 0 = q) (w : World) (hk : StOk w h s) (hf : StFew s) : Calls Try.prog 95 #[stV h s, .int .i64 n] w fun e w' => e = .returned (plV q) ∧ Ext w w' := by
  have F2 := Lib.hid hf.w
  have HK := Lib.hid hk
  obtain ⟨w1, hw1⟩ : ∃ w1, w.alloc (.cells #[.slice h.pa s.prog.length h.pc, .slice h.ga s.gs.length h.gc, .slice h.qa s.ps.length h.qc, .slice h.ma s.ms.length h.mc, .slice h.la s.glob.length h.lc, .int .i64 s.c0, .int .i64 s.c1, .int .i64 s.c2, .int .i64 s.c3, .slice h.a0 s.w0.length h.k0, .slice h.a1 s.w1.length h.k1, .slice h.a2 s.w2.length h.k2, .slice h.a3 s.w3.length h.k3, .slice h.ta s.timers.length h.tc, .int .i64 s.clock, .int .i64 s.procs] 32) = w1 := ⟨_, rfl⟩
  have HX1 : Hid (Ext w w1) := Lib.hid (by rw [← hw1]; exact (Ext.refl w).alloc _)
  have HB1 : Hid (w1.heap[w.heap.size]? = some (.cells (stC h s) 32 (0, 0))) := Lib.hid (by rw [← hw1]; exact blk_new w _)
  have HK1 := Lib.hid (hk.ext HX1.out)
  have HW1 := Lib.hid hw1
  clear hw1 hk
  clear hf
  obtain ⟨B, hB⟩ : ∃ B, w1.heap.size = B := ⟨_, rfl⟩
  have HB := Lib.hid hB
  obtain ⟨w2, hw2⟩ : ∃ w2, w1.alloc (.cells #[.int .i64 0, .int .i64 0] 52) = w2 := ⟨_, rfl⟩
  have HW2 := Lib.hid hw2
  have HX2 : Hid (Ext w1 w2) := Lib.hid (by rw [← hw2]; exact (Ext.refl w1).alloc _)
  have HP2 : Hid (w2.heap[B]? = some (.cells #[.int .i64 0, .int .i64 0] 52 (0, 0))) := Lib.hid (by rw [← hw2, ← hB]; exact blk_new w1 _)
  have HBW : Hid (w.heap.size ≤ B) := Lib.hid (by rw [← hB]; exact HX1.out.size)
  clear hB hw2
  have HQ0 := Lib.hid hq
  clear hq
  have q9 := st9 (HX2.out.blk HB1.out)
  have q10 := st10 (HX2.out.blk HB1.out)
  have q11 := st11 (HX2.out.blk HB1.out)
  have q12 := st12 (HX2.out.blk HB1.out)
  unfold stV
  go_enter Try.func95, Try.ntmps95
  go_upto_region 1 with (first | rw [HW1.out] | rw [HW2.out])
  rw [HB.out]
  generalize Value.agg #[.slice h.pa s.prog.length h.pc, .slice h.ga s.gs.length h.gc, .slice h.qa s.ps.length h.qc, .slice h.ma s.ms.length h.mc, .slice h.la s.glob.length h.lc, .int .i64 s.c0, .int .i64 s.c1, .int .i64 s.c2, .int .i64 s.c3, .slice h.a0 s.w0.length h.k0, .slice h.a1 s.w1.length h.k1, .slice h.a2 s.w2.length h.k2, .slice h.a3 s.w3.length h.k3, .slice h.ta s.timers.length h.tc, .int .i64 s.clock, .int .i64 s.procs] = sv0
  go_wp2_with fail
  clear q9 q10 q11 q12
  go_loopw [9] (fun iv wr => ∃ k : Nat, k ≤ 4 ∧ iv = .int .i64 k ∧ waitAt n (s.wts.drop k) k = q ∧ wr = w2) (fun iv _ => 4 - (intOf iv).toNat)
  case atStart => exact ⟨0, by omega, rfl, HQ0.out, rfl⟩
  case round =>
    obtain ⟨k, hk, rfl, hpl, rfl⟩ := hrel
    have HPL := Lib.hid hpl
    clear hpl
    by_cases hlt : k < 4
    · obtain ⟨A0, d0, l, hcell, hI, hl⟩ := HK1.out.wait hlt
      have hidx : ∀ w, (Instr.index 29 (.agg #[.slice h.a0 s.w0.length h.k0, .slice h.a1 s.w1.length h.k1, .slice h.a2 s.w2.length h.k2, .slice h.a3 s.w3.length h.k3]) (.int .i64 (k : Int))).run Try.prog w = .ok (.slice A0 l.length d0) w := fun w => by
        obtain rfl | rfl | rfl | rfl : k = 0 ∨ k = 1 ∨ k = 2 ∨ k = 3 := by omega
        · have he : Value.slice h.a0 s.w0.length h.k0 = .slice A0 l.length d0 := Option.some.inj hcell
          refine Eq.trans (b := .ok (.slice h.a0 s.w0.length h.k0) w) ?_ (by rw [he])
          kernel_rfl
        · have he : Value.slice h.a1 s.w1.length h.k1 = .slice A0 l.length d0 := Option.some.inj hcell
          refine Eq.trans (b := .ok (.slice h.a1 s.w1.length h.k1) w) ?_ (by rw [he])
          kernel_rfl
        · have he : Value.slice h.a2 s.w2.length h.k2 = .slice A0 l.length d0 := Option.some.inj hcell
          refine Eq.trans (b := .ok (.slice h.a2 s.w2.length h.k2) w) ?_ (by rw [he])
          kernel_rfl
        · have he : Value.slice h.a3 s.w3.length h.k3 = .slice A0 l.length d0 := Option.some.inj hcell
          refine Eq.trans (b := .ok (.slice h.a3 s.w3.length h.k3) w) ?_ (by rw [he])
          kernel_rfl
      have HCN := Lib.hid (scontains_any _ l n _ rfl wr (hI.ext HX2.out) (by have := wts_few F2.out hl; omega))
      have HD : Hid (waitAt n (s.wts.drop k) k = if n ∈ l then (5, (k : Int)) else waitAt n (s.wts.drop (k + 1)) (k + 1)) := Lib.hid (by rw [drop_next hl, waitAt])
      clear hcell hI hl
      go_wp2_with fail
      refine HCN.out.mono ?_
      rintro e w' ⟨rfl, rfl⟩
      clear hidx
      by_cases hm : n ∈ l
      · have HQ : Hid ((5, (k : Int)) = q) := Lib.hid (by rw [← HPL.out, HD.out, if_pos hm])
        rw [decide_eq_true hm]
        have HPR := Lib.hid HP2.out
        have HXR := Lib.hid HX2.out
        obtain ⟨⟨r0, r1⟩, y0, y1⟩ := place_cells HPR.out
        clear hm
        go_wp2
        refine bodyPost_ret (v := .agg #[.int .i64 _, .int .i64 _]) (results_cell_row rfl _ _ B _ _ _ _ rfl (place_set HPR.out) Try.underlying52 rfl (by kernel_rfl)) rfl ⟨by rw [← HQ.out] <;> rfl, (HX1.out.trans HXR.out).set2 HBW.out _ _⟩
      · have HN : Hid (waitAt n (s.wts.drop (k + 1)) (k + 1) = q) := Lib.hid (by rw [← HPL.out, HD.out, if_neg hm])
        rw [decide_eq_false hm]
        clear hm
        go_wp2
        go_roundw
        case rel => exact ⟨k + 1, by omega, by go_num, HN.out, trivial⟩
        case measure => simp [intOf]; omega
    · have HQ : Hid ((6, 0) = q) := Lib.hid (by
        obtain rfl : k = 4 := by omega
        rw [← HPL.out]; rfl)
      have HPR := Lib.hid HP2.out
      have HXR := Lib.hid HX2.out
      obtain ⟨⟨r0, r1⟩, y0, y1⟩ := place_cells HPR.out
      go_wp2
      refine bodyPost_ret (v := .agg #[.int .i64 _, .int .i64 _]) (results_cell_row rfl _ _ B _ _ _ _ rfl (place_set HPR.out) Try.underlying52 rfl (by kernel_rfl)) rfl ⟨by rw [← HQ.out] <;> rfl, (HX1.out.trans HXR.out).set2 HBW.out _ _⟩
end Go.Proofs.Ytogcfndhcphpaaa
/-
  The program's copy of a program.
-/
set_option linter.unusedVariables false
set_option linter.unusedSimpArgs false
namespace Go.Proofs.Ytogcfndhcphpaaa
open Go.RowKit

/-- A block of slices' headers. -/
def HdrAt (w : World) (g : Nat) (hs : List (Option Addr × Nat × Nat)) : Prop := ∃ cs, w.heap[g]? = some (.cells cs 69 (0, 0)) ∧ ∀ (j : Nat) x, hs[j]? = some x → cs[j]? = some (.slice x.1 x.2.1 x.2.2)
theorem HdrAt.cell {w : World} {g : Nat} {hs : List (Option Addr × Nat × Nat)} (h : HdrAt w g hs) {j : Nat} {x : Option Addr × Nat × Nat} (hj : hs[j]? = some x) : w.cell? ⟨g, j, none⟩ = some (.slice x.1 x.2.1 x.2.2) := by
  obtain ⟨cs, hc, hh⟩ := h
  exact blk_cell hc j _ (hh j x hj)
theorem HdrAt.frozen {w : World} {g : Nat} {hs : List (Option Addr × Nat × Nat)} (h : HdrAt w g hs) (j : Nat) : w.frozen? ⟨g, j, none⟩ = false := by
  obtain ⟨cs, hc, hh⟩ := h
  exact frozen_of_row _ _ j _ _ hc
theorem HdrAt.ext {w w' : World} {g : Nat} {hs : List (Option Addr × Nat × Nat)} (h : HdrAt w g hs) (hx : Ext w w') : HdrAt w' g hs := by
  obtain ⟨cs, hc, hh⟩ := h
  exact ⟨cs, hx.blk hc, hh⟩
theorem HdrAt.set {w : World} {g k : Nat} {ns hs : List (Option Addr × Nat × Nat)} {y x : Option Addr × Nat × Nat} (h : HdrAt w g (ns ++ y :: hs)) (hk : k = ns.length) : HdrAt (w.setCell ⟨g, k, none⟩ (.slice x.1 x.2.1 x.2.2)) g (ns ++ x :: hs) := by
  subst hk
  obtain ⟨cs, hc, hh⟩ := h
  refine ⟨_, blk_set hc _ _, fun j z hj => ?_⟩
  by_cases he : j = ns.length
  · subst he
    have := hh ns.length y (by simp)
    rw [List.getElem?_append_right (Nat.le_refl _), Nat.sub_self] at hj
    simp only [List.getElem?_cons_zero, Option.some.injEq] at hj
    subst hj
    rw [Array.getElem?_setIfInBounds_self_of_lt (Array.getElem?_eq_some_iff.1 this).1]
  · rw [Array.getElem?_setIfInBounds_ne (Ne.symm he)]
    refine hh j z ?_
    rw [List.getElem?_append] at hj ⊢
    split at hj
    · rename_i hlt; rw [if_pos hlt]; exact hj
    · rename_i hlt
      rw [if_neg hlt]
      obtain ⟨i, hi⟩ : ∃ i, j - ns.length = i + 1 := ⟨j - ns.length - 1, by omega⟩
      rw [hi] at hj ⊢
      exact hj
theorem HdrAt.own {w : World} {B n c g : Nat} {hs : List (Option Addr × Nat × Nat)} (h : OwnRows 69 1 hdrL w B (.slice (some ⟨g, 0, none⟩) n c) hs) : HdrAt w g hs := by
  rcases h.2 with ⟨h0, _⟩ | ⟨g', cap, cur, hv, hb, hg, hnc, hcm, hcs, htake⟩
  · cases h0
  · simp only [Value.slice.injEq, Option.some.injEq, Addr.mk.injEq] at hv
    obtain ⟨⟨rfl, -, -⟩, -, -⟩ := hv
    refine ⟨cur, hg, fun j x hj => ?_⟩
    have h1 := flatMap_get (f := hdrL) (m := 1) hdrL_len hs j x hj 0 _ rfl
    rw [← htake, Nat.mul_one, Nat.add_zero, List.getElem?_take] at h1
    split at h1
    · rw [Nat.mul_one] at h1; rw [← Array.getElem?_toList]; exact h1
    · cases h1
/-- The headers of a slice of slices. -/
theorem NestAt.hdrs {α : Type} {m : Nat} {f : α → List Value} {w : World} {v : Value} {xss : List (List α)} (h : NestAt m f w v xss) : ∃ hs : List (Option Addr × Nat × Nat), hs.length = xss.length ∧ RowsAt 1 hdrL w v hs ∧ ∀ (i : Nat) x xs, hs[i]? = some x → xss[i]? = some xs → RowsAt m f w (.slice x.1 x.2.1 x.2.2) xs := by
  obtain ⟨vs, h1, h2, h3⟩ := h
  have hf : ∀ v ∈ vs, ∃ x : Option Addr × Nat × Nat, v = .slice x.1 x.2.1 x.2.2 := fun v hv => by
    obtain ⟨i, hi⟩ := List.mem_iff_getElem?.1 hv
    have hlt := (List.getElem?_eq_some_iff.1 hi).1
    obtain ⟨A, c, hvv, _⟩ := (h3 i v _ hi (List.getElem?_eq_getElem (by omega))).form
    exact ⟨(A, _, c), hvv⟩
  let g : Value → Option Addr × Nat × Nat := fun v => match v with | .slice A n c => (A, n, c) | _ => (none, 0, 0)
  have hg : ∀ v ∈ vs, v = .slice (g v).1 (g v).2.1 (g v).2.2 := fun v hv => by obtain ⟨x, rfl⟩ := hf v hv; rfl
  refine ⟨vs.map g, by simp [h1], ?_, fun i x xs hx hxs => ?_⟩
  · obtain ⟨A, c, rfl, hc, hA⟩ := h2
    refine ⟨A, c, by simp, by simpa using hc, fun h0 => ?_⟩
    obtain ⟨b, o, hb, hlt, hcell⟩ := hA (by simpa using h0)
    refine ⟨b, o, hb, hlt, fun j x hj i u hu => ?_⟩
    rw [List.getElem?_map, Option.map_eq_some_iff] at hj
    obtain ⟨v, hv, rfl⟩ := hj
    have := hcell j v hv 0 v rfl
    match i with
    | 0 => simp [hdrL] at hu; subst hu; rw [this, ← hg v (List.mem_of_getElem? hv)]
    | i + 1 => simp [hdrL] at hu
  · rw [List.getElem?_map, Option.map_eq_some_iff] at hx
    obtain ⟨v, hv, rfl⟩ := hx
    rw [← hg v (List.mem_of_getElem? hv)]
    exact h3 i v xs hv hxs
set_option maxRecDepth 100000 in
set_option maxHeartbeats 4000000 in
theorem scloneProg_any (v : Value) (p : List (List (Int × Int))) (w : World) (h : NestAt 2 pairL w v p) (hp : p.length ≤ 100000) (hpl : ∀ l ∈ p, l.length ≤ 100000) : Calls Try.prog 93 #[v] w fun e w' => ∃ A c, e = .returned (.slice A p.length c) ∧ NestIn w.heap.size w'.heap.size 2 pairL w' (.slice A p.length c) p ∧ Ext w w' := by
  obtain ⟨hs, hl, hr, hin⟩ := h.hdrs
  have HIN := Lib.hid hin
  have HPL := Lib.hid hpl
  have HL := Lib.hid hl
  have HCL := Lib.hid (cloneH_any v hs w hr (by omega))
  clear h hl hr hin hpl
  go_enter Try.func93, Try.ntmps93
  go_wp2_with fail
  refine HCL.out.mono ?_
  rintro e w1 ⟨u, rfl, ho, hx⟩
  obtain ⟨A, c, rfl, hc⟩ := (OwnRows.rows hdrL_len ho).form
  have HO := Lib.hid ho
  have HX := Lib.hid hx
  have HCC : Hid (p.length ≤ c) := Lib.hid (by rw [← HL.out]; exact hc)
  rw [HL.out] at HO ⊢
  clear ho hx hc
  by_cases hp0 : p = []
  · subst hp0
    have HN : Hid (NestIn w.heap.size w1.heap.size 2 pairL w1 (.slice A 0 c) []) := Lib.hid ⟨[], rfl, RowsIn.nil _ _ _, fun i u xs h => by simp at h⟩
    simp only [List.length_nil] at *
    clear HCC HCL HL HO
    go_wp2_with fail
    go_loop [10] (fun iv => iv = .int .i64 0) (fun _ => 0)
    case atStart => rfl
    case round =>
      subst hrel
      go_wp2
      go_ret
      exact ⟨A, c, rfl, HN.out, HX.out⟩
  have hpos : 0 < p.length := List.length_pos_iff.2 hp0
  obtain ⟨g, rfl⟩ : ∃ g, A = some ⟨g, 0, none⟩ := by
    rcases HO.out.2 with ⟨h0, hz⟩ | ⟨g, cap, cur, hv, _⟩
    · exact absurd hz (by have := HL.out; omega)
    · simp only [Value.slice.injEq] at hv
      exact ⟨g, hv.1⟩
  have hgl := OwnRows.lt HO.out g rfl
  have HG := Lib.hid hgl
  have HH := Lib.hid (HdrAt.own HO.out)
  clear hgl HO
  go_wp2_with fail
  go_loopw [10] (fun iv wr => ∃ k : Nat, k ≤ p.length ∧ iv = .int .i64 k ∧ ∃ ns : List (Option Addr × Nat × Nat), ns.length = k ∧ HdrAt wr g (ns ++ hs.drop k) ∧ (∀ (i : Nat) x l, ns[i]? = some x → p[i]? = some l → RowsIn w1.heap.size wr.heap.size 2 pairL wr (.slice x.1 x.2.1 x.2.2) l) ∧ w1.heap.size ≤ wr.heap.size ∧ Ext w wr) (fun iv _ => p.length - (intOf iv).toNat)
  case atStart => exact ⟨0, by omega, rfl, [], rfl, HH.out, fun i x l h => by simp at h, Nat.le_refl _, HX.out⟩
  case round =>
    clear HH HX
    obtain ⟨k, hk, rfl, ns, hns, hhd, hrows, hsz, hx⟩ := hrel
    have HNS := Lib.hid hns
    have HHD := Lib.hid hhd
    have HRW := Lib.hid hrows
    have HSZ := Lib.hid hsz
    have HX := Lib.hid hx
    clear hns hhd hrows hsz hx
    by_cases hlt : k < p.length
    · obtain ⟨l, hpl⟩ : ∃ l, p[k]? = some l := ⟨_, List.getElem?_eq_getElem hlt⟩
      obtain ⟨x, hxs⟩ : ∃ x, hs[k]? = some x := ⟨_, List.getElem?_eq_getElem (by have := HL.out; omega)⟩
      have hrow := HIN.out k x l hxs hpl
      obtain ⟨B, n, d⟩ := x
      obtain rfl : n = l.length := (RowsAt.len hrow).1
      have HD : Hid (HdrAt wr g (ns ++ (B, l.length, d) :: hs.drop (k + 1))) := Lib.hid (by have := HHD.out; rwa [drop_next hxs] at this)
      have kc : wr.cell? ⟨g, k, none⟩ = some (.slice B l.length d) := HD.out.cell (x := (B, l.length, d)) (by rw [← HNS.out]; simp)
      have HCI := Lib.hid (cloneI_any _ l wr (hrow.ext HX.out) (by have := HPL.out l (List.mem_of_getElem? hpl); omega))
      have HPK := Lib.hid hpl
      clear hpl hxs hrow
      go_wp2_with fail
      refine HCI.out.mono ?_
      rintro e w3 ⟨u, rfl, ho, hx3⟩
      obtain ⟨A', c', rfl, hc'⟩ := (OwnRows.rows pairL_len ho).form
      have HD3 := Lib.hid (HD.out.ext hx3)
      have kc3 : w3.cell? ⟨g, k, none⟩ = some (.slice B l.length d) := HD3.out.cell (x := (B, l.length, d)) (by rw [← HNS.out]; simp)
      have kf3 := HD3.out.frozen k
      have hbut : But (fun i => i = g) w3 (w3.setCell ⟨g, k, none⟩ (.slice A' l.length c')) := But.upd ((Upd.refl g w3).set k _) rfl
      have HN1 : Hid (HdrAt (w3.setCell ⟨g, k, none⟩ (.slice A' l.length c')) g ((ns ++ [(A', l.length, c')]) ++ hs.drop (k + 1))) := Lib.hid (by
        have := HD3.out.set (x := (A', l.length, c')) HNS.out.symm
        rwa [List.append_assoc])
      have hg1 := HG.out
      have hz1 := HSZ.out
      have HN2 : Hid (∀ (i : Nat) x l', (ns ++ [(A', l.length, c')])[i]? = some x → p[i]? = some l' → RowsIn w1.heap.size (w3.setCell ⟨g, k, none⟩ (.slice A' l.length c')).heap.size 2 pairL (w3.setCell ⟨g, k, none⟩ (.slice A' l.length c')) (.slice x.1 x.2.1 x.2.2) l') := Lib.hid fun i x l' hi hl' => by
        rw [List.getElem?_append] at hi
        split at hi
        · have := HRW.out i x l' hi hl'
          exact ((this.ext hx3).but hbut (fun b h1 _ h2 => by omega)).mono (Nat.le_refl _) (Nat.le_trans hx3.size hbut.size)
        · rename_i hge
          have hi0 : i = ns.length := by
            have := (List.getElem?_eq_some_iff.1 hi).1
            simp at this; omega
          subst hi0
          simp only [Nat.sub_self, List.getElem?_cons_zero, Option.some.injEq] at hi
          subst hi
          have hll : l' = l := by have := HPK.out; rw [← HNS.out, hl'] at this; exact Option.some.inj this
          subst hll
          exact ((OwnRows.rowsIn pairL_len ho).but hbut (fun b h1 _ h2 => by omega)).mono hz1 hbut.size
      have HN3 : Hid (w1.heap.size ≤ (w3.setCell ⟨g, k, none⟩ (.slice A' l.length c')).heap.size) := Lib.hid (Nat.le_trans hz1 (Nat.le_trans hx3.size hbut.size))
      have HN4 : Hid (Ext w (w3.setCell ⟨g, k, none⟩ (.slice A' l.length c'))) := Lib.hid ((HX.out.trans hx3).setCell (p := ⟨g, k, none⟩) hg1.1 _)
      have HN5 : Hid ((ns ++ [(A', l.length, c')]).length = k + 1) := Lib.hid (by rw [List.length_append, HNS.out]; rfl)
      clear ho hx3 hc' hbut hg1 hz1 kc
      go_wp2
      go_roundw
      case rel => exact ⟨k + 1, by omega, by go_num, ns ++ [(A', l.length, c')], HN5.out, HN1.out, HN2.out, HN3.out, HN4.out⟩
      case measure => simp [intOf]; omega
    · obtain rfl : k = p.length := by omega
      have HNE : Hid (NestIn w.heap.size wr.heap.size 2 pairL wr (.slice (some ⟨g, 0, none⟩) p.length c) p) := Lib.hid (by
        have hg1 := HG.out
        have hsz := HSZ.out
        have hxw := HX.out.size
        refine ⟨ns.map fun x => .slice x.1 x.2.1 x.2.2, by rw [List.length_map]; exact HNS.out, ⟨some ⟨g, 0, none⟩, c, by rw [List.length_map, HNS.out], by rw [List.length_map, HNS.out]; exact HCC.out, fun _ => ⟨g, 0, rfl, hg1.1, by omega, by omega, fun j x hj i u hu => ?_⟩⟩, fun i u xs hu hxs => ?_⟩
        · rw [List.getElem?_map, Option.map_eq_some_iff] at hj
          obtain ⟨y, hy, rfl⟩ := hj
          match i with
          | 0 =>
            simp [oneL] at hu; subst hu
            rw [Nat.mul_one, Nat.add_zero, Nat.zero_add]
            exact HHD.out.cell (by rw [List.getElem?_append_left (List.getElem?_eq_some_iff.1 hy).1]; exact hy)
          | i + 1 => simp [oneL] at hu
        · rw [List.getElem?_map, Option.map_eq_some_iff] at hu
          obtain ⟨y, hy, rfl⟩ := hu
          exact (HRW.out i y xs hy hxs).mono (by omega) (Nat.le_refl _))
      go_wp2
      go_ret
      exact ⟨_, c, rfl, HNE.out, HX.out⟩
end Go.Proofs.Ytogcfndhcphpaaa
