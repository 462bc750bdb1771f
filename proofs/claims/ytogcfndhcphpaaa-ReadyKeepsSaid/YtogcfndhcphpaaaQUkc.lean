/-
  What the chunks lack, for one more law.
-/
import Derived.Test.YtogcfndhcphpaaaB01
import Derived.Test.YtogcfndhcphpaaaB02
import Derived.Test.YtogcfndhcphpaaaB03
import Derived.Test.YtogcfndhcphpaaaB04
import Derived.Test.YtogcfndhcphpaaaB05
import Derived.Test.YtogcfndhcphpaaaB06
import Derived.Test.YtogcfndhcphpaaaB07
import Derived.Test.YtogcfndhcphpaaaB08
import Derived.Test.YtogcfndhcphpaaaB09
import Derived.Test.YtogcfndhcphpaaaB10
import Derived.Test.YtogcfndhcphpaaaB11
import Derived.Test.YtogcfndhcphpaaaB12
import Derived.Test.YtogcfndhcphpaaaB13
import Derived.Test.YtogcfndhcphpaaaB14
import Derived.Test.YtogcfndhcphpaaaB15
import Derived.Test.YtogcfndhcphpaaaB16
import Derived.Great.Walk
set_option linter.unusedVariables false
set_option linter.unusedSimpArgs false
namespace Go.Proofs.Ytogcfndhcphpaaa
open Go.RowKit
section
variable {P : Program} {ops : Array Oper} {Q : Exit → Act → World → Prop} {md : Region.Mode}
section
variable {ms : List Nat} {mem : Nat → Bool} {V : Nat → Value → Prop} {T : Nat → (Nat → GV) → World → Prop} {E : Nat → (Nat → GV) → World → World → Prop} {B : World → Prop}
def chgOf (w0 : World) : List (Nat × Nat × List Nat) → Nat → (Nat → GV) → World → World → Prop
  | [], _, _ => Ext
  | p :: l, i, u => if p.1 = i then ChgIn w0 p.2.1 (p.2.2.map u) else chgOf w0 l i u
theorem chgOf_cases (w0 : World) (cs : List (Nat × Nat × List Nat)) (i : Nat) : (∀ u, chgOf w0 cs i u = Ext) ∨ ∃ n js, (i, n, js) ∈ cs ∧ ∀ u, chgOf w0 cs i u = ChgIn w0 n (js.map u) := by
  induction cs with
  | nil => exact .inl fun _ => rfl
  | cons p l ih =>
    obtain ⟨p1, n, js⟩ := p
    by_cases hp : p1 = i
    · right
      refine ⟨n, js, by rw [← hp]; simp, fun u => ?_⟩
      show (if p1 = i then _ else _) = _
      rw [if_pos hp]
    · have e : ∀ u, chgOf w0 ((p1, n, js) :: l) i u = chgOf w0 l i u := fun u => by show (if p1 = i then _ else _) = _; rw [if_neg hp]
      rcases ih with h | ⟨n', js', h1, h2⟩
      · exact .inl fun u => (e u).trans (h u)
      · exact .inr ⟨n', js', by simp [h1], fun u => (e u).trans (h2 u)⟩
theorem region_rgw (l : Fam) (w0 : World) (cs : List (Nat × Nat × List Nat)) {id : Nat} {a : Act} {w : World} (hm : P.follows .mixedOrders = true) (hok : rgOk .any ops (rgMasks .any ops) = true)
    (hcs : ∀ p ∈ cs, ∀ j ∈ p.2.2, (rgPre (rgMasks .any ops) p.1 j && famM l j) = true)
    (hl : ∀ p ∈ l, (∃ u, p.2.1 u) ∧ (∀ u v w, (∀ j, (j = p.1 ∨ rgPre (rgMasks .any ops) p.1 j = true) → famM l j = true → u j = v j) → p.2.2 u w → p.2.2 v w) ∧ (∀ u w w', Ext w w' → p.2.2 u w → p.2.2 u w') ∧
      ∀ q ∈ cs, q.1 ≠ p.1 → rgPre (rgMasks .any ops) p.1 q.1 = false → ∀ u w w', (∀ j ∈ q.2.2, p.1 ≠ j → (u j).apart (u p.1)) → (∀ j ∈ q.2.2, ∀ j', rgPre (rgMasks .any ops) p.1 j' = true → famM l j' = true → j ≠ j' → (u j).apart (u j')) → ChgIn w0 q.2.1 (q.2.2.map u) w w' → p.2.2 u w → p.2.2 u w') (hB : Ext w0 w)
    (h : RG P ops Q (rgMasks .any ops) (famM l) (famV l) (famT l) (chgOf w0 cs) (Ext w0) ops.size 0 [] a) : (Code.region id ops true).wp P Q a w := by
  refine region_rg (rgMasks .any ops) (famM l) (famV l) (famT l) (chgOf w0 cs) (Ext w0) hm hok (fun k _ => famV_some (fun p hp => (hl p hp).1) k) (fun k u v w => famT_loc (fun p hp => (hl p hp).2.1) k u v w) ?_ ?_ ?_ hB.drew h
  · intro i u w w' hw hE
    rcases chgOf_cases w0 cs i with h | ⟨n, js, _, h⟩
    · rw [h] at hE; exact ⟨hw.trans hE, hE.size⟩
    · rw [h] at hE; exact ⟨hE.new, hE.size⟩
  · intro i u v w w' hj hE
    rcases chgOf_cases w0 cs i with h | ⟨n, js, hm, h⟩
    · rw [h] at hE ⊢; exact hE
    · rw [h] at hE ⊢
      have e : js.map u = js.map v := List.map_congr_left fun j hjm => by
        have := hcs _ hm j hjm
        simp only [Bool.and_eq_true] at this
        exact hj j (.inr this.1) this.2
      rwa [← e]
  · intro i k u w w' hik hpk _ hmk hap hT hE
    rcases chgOf_cases w0 cs i with h | ⟨n, js, hm, h⟩
    · rw [h] at hE
      exact famT_ext (fun p hp => (hl p hp).2.2.1) k u w w' hT hE
    · rw [h] at hE
      exact famT_at k (fun t => t u w → t u w') (fun _ => trivial) (fun p hp he => (hl p hp).2.2.2 (i, n, js) hm (by rw [he]; exact hik) (by rw [he]; exact hpk) u w w' (fun j hjm hne => by
        have := hcs _ hm j hjm
        simp only [Bool.and_eq_true] at this
        rw [he]
        exact hap j k (.inr this.1) (.inl rfl) this.2 hmk (fun e => hne (by rw [he, e]))) (fun j hjm j' hj' hm' hne => by
        have := hcs _ hm j hjm
        simp only [Bool.and_eq_true] at this
        exact hap j j' (.inr this.1) (.inr (by rw [← he]; exact hj')) this.2 hm' hne) hE) hT
end
end
end Go.Proofs.Ytogcfndhcphpaaa
namespace Go.Proofs.Ytogcfndhcphpaaa
open Go.RowKit
set_option maxHeartbeats 1000000 in
theorem scontains_any (v : Value) (l : List Int) (n : Int) (r : Bool) (hr : decide (n ∈ l) = r) (w : World) (h : IntsAt w v l) (hl : l.length ≤ 100000000) : Calls Try.prog 123 #[v, .int .i64 n] w fun e w' => e = .returned (.bool r) ∧ w' = w := by
  have HS := Lib.hid (sindex_any v l n w h hl)
  obtain ⟨A, c, rfl, -⟩ := h
  go_enter Try.func123, Try.ntmps123
  go_wp2_with fail
  refine HS.out.mono ?_
  rintro e w' ⟨i, rfl, hi, rfl⟩
  rw [hr] at hi
  go_wp2
  go_ret
  exact ⟨by rw [← hi] <;> rfl, rfl⟩
end Go.Proofs.Ytogcfndhcphpaaa
namespace Go.Proofs.Ytogcfndhcphpaaa
open Go.RowKit
def plV (q : Int × Int) : Value := .agg #[.int .i64 q.1, .int .i64 q.2]
def placeAt (n : Int) : List Pr → Nat → Int × Int
  | [], _ => (3, 0)
  | p :: ps, i => if p.next = n then (1, (i : Int) + 1) else if n ∈ p.ring.list then (2, (i : Int) + 1) else placeAt n ps (i + 1)
def waitAt (n : Int) : List (List Int) → Nat → Int × Int
  | [], _ => (6, 0)
  | l :: ls, i => if n ∈ l then (5, (i : Int)) else waitAt n ls (i + 1)
theorem place_set {w : World} {B : Nat} {x y u v : Value} {T : TypeId} (h : w.heap[B]? = some (.cells #[u, v] T (0, 0))) : ((w.setCell ⟨B, 0, none⟩ x).setCell ⟨B, 1, none⟩ y).heap[B]? = some (.cells #[x, y] T (0, 0)) := blk_set (blk_set h 0 _) 1 _
theorem place_cells {w : World} {B : Nat} {u v : Value} {T : TypeId} (h : w.heap[B]? = some (.cells #[u, v] T (0, 0))) : (w.cell? ⟨B, 0, none⟩ = some u ∧ w.cell? ⟨B, 1, none⟩ = some v) ∧ w.frozen? ⟨B, 0, none⟩ = false ∧ w.frozen? ⟨B, 1, none⟩ = false :=
  ⟨⟨blk_cell h 0 _ rfl, blk_cell h 1 _ rfl⟩, frozen_of_row _ _ 0 _ _ h, frozen_of_row _ _ 1 _ _ h⟩
theorem Ext.set2 {a w : World} {B : Nat} (h : Ext a w) (hB : a.heap.size ≤ B) (x y : Value) : Ext a ((w.setCell ⟨B, 0, none⟩ x).setCell ⟨B, 1, none⟩ y) := (h.setCell (p := ⟨B, 0, none⟩) hB x).setCell (p := ⟨B, 1, none⟩) hB y
set_option maxRecDepth 100000 in
set_option maxHeartbeats 4000000 in
theorem squeued_any (h : StH) (s : St) (n : Int) (q : Int × Int) (hq : placeAt n s.ps 0 = q) (w : World) (hk : StOk w h s) (hf : StFew s) : Calls Try.prog 94 #[stV h s, .int .i64 n] w fun e w' => e = .returned (plV q) ∧ Ext w w' := by
  have f1 := hf.ps
  have HK := Lib.hid hk
  obtain ⟨w1, hw1⟩ : ∃ w1, w.alloc (.cells #[.slice h.pa s.prog.length h.pc, .slice h.ga s.gs.length h.gc, .slice h.qa s.ps.length h.qc, .slice h.ma s.ms.length h.mc, .slice h.la s.glob.length h.lc, .int .i64 s.c0, .int .i64 s.c1, .int .i64 s.c2, .int .i64 s.c3, .slice h.a0 s.w0.length h.k0, .slice h.a1 s.w1.length h.k1, .slice h.a2 s.w2.length h.k2, .slice h.a3 s.w3.length h.k3, .slice h.ta s.timers.length h.tc, .int .i64 s.clock, .int .i64 s.procs] 32) = w1 := ⟨_, rfl⟩
  have HX1 : Hid (Ext w w1) := Lib.hid (by rw [← hw1]; exact (Ext.refl w).alloc _)
  have HB1 : Hid (w1.heap[w.heap.size]? = some (.cells (stC h s) 32 (0, 0))) := Lib.hid (by rw [← hw1]; exact blk_new w _)
  have HK1 := Lib.hid (hk.ext HX1.out)
  have HW1 := Lib.hid hw1
  clear hw1 hk
  clear hf
  obtain ⟨B, hB⟩ : ∃ B, w1.heap.size = B := ⟨_, rfl⟩
  have HB := Lib.hid hB
  obtain ⟨w2, hw2⟩ : ∃ w2, w1.alloc (.cells #[.int .i64 0, .int .i64 0] 52) = w2 := ⟨_, rfl⟩
  have HW2 := Lib.hid hw2
  have HX2 : Hid (Ext w1 w2) := Lib.hid (by rw [← hw2]; exact (Ext.refl w1).alloc _)
  have HP2 : Hid (w2.heap[B]? = some (.cells #[.int .i64 0, .int .i64 0] 52 (0, 0))) := Lib.hid (by rw [← hw2, ← hB]; exact blk_new w1 _)
  have HBW : Hid (w.heap.size ≤ B) := Lib.hid (by rw [← hB]; exact HX1.out.size)
  clear hB hw2
  have HQ0 := Lib.hid hq
  clear hq
  have q2 := st2 (HX2.out.blk HB1.out)
  unfold stV
  go_enter Try.func94, Try.ntmps94
  go_upto_region 1 with (first | rw [HW1.out] | rw [HW2.out])
  rw [HB.out]
  generalize Value.agg #[.slice h.pa s.prog.length h.pc, .slice h.ga s.gs.length h.gc, .slice h.qa s.ps.length h.qc, .slice h.ma s.ms.length h.mc, .slice h.la s.glob.length h.lc, .int .i64 s.c0, .int .i64 s.c1, .int .i64 s.c2, .int .i64 s.c3, .slice h.a0 s.w0.length h.k0, .slice h.a1 s.w1.length h.k1, .slice h.a2 s.w2.length h.k2, .slice h.a3 s.w3.length h.k3, .slice h.ta s.timers.length h.tc, .int .i64 s.clock, .int .i64 s.procs] = sv0
  go_wp2_with fail
  clear q2
  obtain ⟨qa, hqa⟩ : ∃ qa, h.qa = qa := ⟨_, rfl⟩
  have HQA := Lib.hid hqa
  rw [hqa]
  clear hqa
  go_loopw [10] (fun iv wr => ∃ k : Nat, k ≤ s.ps.length ∧ iv = .int .i64 k ∧ placeAt n (s.ps.drop k) k = q ∧ Ext w2 wr) (fun iv _ => s.ps.length - (intOf iv).toNat)
  case atStart => exact ⟨0, by omega, rfl, HQ0.out, Ext.refl _⟩
  case round =>
    obtain ⟨k, hk, rfl, hpl, hx⟩ := hrel
    have HX := Lib.hid hx
    have HPL := Lib.hid hpl
    clear hx hpl
    by_cases hlt : k < s.ps.length
    · obtain ⟨p, hp⟩ : ∃ p, s.ps[k]? = some p := ⟨_, List.getElem?_eq_getElem hlt⟩
      obtain ⟨m, nx, r, sq⟩ := p
      obtain ⟨b0, b1, b2, b3, b4, b5, b6, b7, hd, nn, rfl⟩ := Ri.open8 (HK.out.buf _ (List.mem_of_getElem? hp))
      obtain ⟨b, o, hA, hb, hc⟩ := ps_get (HK1.out.ext (HX2.out.trans HX.out)).ps hp
      rw [HQA.out] at hA
      subst hA
      obtain ⟨⟨p0, p1, p2, p3, p4, p5, p6⟩, p7, p8, p9, p10, p11, p12⟩ := hc
      obtain ⟨l, hl⟩ : ∃ l, Ri.list ⟨[b0, b1, b2, b3, b4, b5, b6, b7], hd, nn⟩ = l := ⟨_, rfl⟩
      have HL := Lib.hid hl
      have hl8 : Hid (l.length ≤ 8) := Lib.hid (by rw [← hl]; exact Ri.list_len _)
      have HD : Hid (placeAt n (s.ps.drop k) k = if nx = n then (1, (k : Int) + 1) else if n ∈ l then (2, (k : Int) + 1) else placeAt n (s.ps.drop (k + 1)) (k + 1)) := Lib.hid (by rw [drop_next hp, placeAt, ← hl])
      obtain ⟨w4, hw4⟩ : ∃ w4, wr.alloc (.cells #[.int .i64 m, .int .i64 nx, .int .i64 b0, .int .i64 b1, .int .i64 b2, .int .i64 b3, .int .i64 b4, .int .i64 b5, .int .i64 b6, .int .i64 b7, .int .i64 hd, .int .i64 nn, .int .i64 sq] 40) = w4 := ⟨_, rfl⟩
      have HW4 := Lib.hid hw4
      have HX4 : Hid (Ext wr w4) := Lib.hid (by rw [← hw4]; exact (Ext.refl wr).alloc _)
      have HB4 : Hid (w4.heap[wr.heap.size]? = some (.cells #[.int .i64 m, .int .i64 nx, .int .i64 b0, .int .i64 b1, .int .i64 b2, .int .i64 b3, .int .i64 b4, .int .i64 b5, .int .i64 b6, .int .i64 b7, .int .i64 hd, .int .i64 nn, .int .i64 sq] 40 (0, 0))) := Lib.hid (by rw [← hw4]; exact blk_new wr _)
      clear hp hb hl hw4
      go_upto_region 4 with fail
      rw [HW4.out]
      clear p0 p1 p2 p3 p4 p5 p6 p7 p8 p9 p10 p11 p12
      by_cases h1 : nx = n
      · have HQ : Hid ((1, (k : Int) + 1) = q) := Lib.hid (by rw [← HPL.out, HD.out, if_pos h1])
        have h1' : (nx == n) = true := by simpa using h1
        have z1 := blk_cell HB4.out 1 _ rfl
        have HPR := Lib.hid ((HX.out.trans HX4.out).blk HP2.out)
        have HXR := Lib.hid (HX2.out.trans (HX.out.trans HX4.out))
        obtain ⟨⟨r0, r1⟩, y0, y1⟩ := place_cells HPR.out
        clear h1
        go_wp2
        refine bodyPost_ret (v := .agg #[.int .i64 _, .int .i64 _]) (results_cell_row rfl _ _ B _ _ _ _ rfl (place_set HPR.out) Try.underlying52 rfl (by kernel_rfl)) rfl ⟨by rw [← HQ.out] <;> rfl, (HX1.out.trans HXR.out).set2 HBW.out _ _⟩
      · have h1' : (nx == n) = false := by simpa using h1
        have HD2 : Hid (placeAt n (s.ps.drop k) k = if n ∈ l then (2, (k : Int) + 1) else placeAt n (s.ps.drop (k + 1)) (k + 1)) := Lib.hid (by rw [HD.out, if_neg h1])
        clear h1
        obtain ⟨⟨p0, p1, p2, p3, p4, p5, p6⟩, p7, p8, p9, p10, p11, p12⟩ := cells13 HB4.out
        go_wp2_with fail
        refine (rlist_k b0 b1 b2 b3 b4 b5 b6 b7 hd nn l HL.out _).mono ?_
        rintro e w5 ⟨v5, rfl, hi5, hx5⟩
        obtain ⟨A5, c5, rfl⟩ := hi5.form
        clear p0 p1 p2 p3 p4 p5 p6 p7 p8 p9 p10 p11 p12
        have HX5 := Lib.hid (HX.out.trans (HX4.out.trans hx5))
        have HCN := Lib.hid (scontains_any _ l n _ rfl _ hi5 (by have := hl8.out; omega))
        clear hi5 hx5
        go_wp2_with fail
        refine HCN.out.mono ?_
        rintro e w' ⟨rfl, rfl⟩
        by_cases hm : n ∈ l
        · have HQ : Hid ((2, (k : Int) + 1) = q) := Lib.hid (by rw [← HPL.out, HD2.out, if_pos hm])
          rw [decide_eq_true hm]
          have HPR := Lib.hid (HX5.out.blk HP2.out)
          have HXR := Lib.hid (HX2.out.trans HX5.out)
          obtain ⟨⟨r0, r1⟩, y0, y1⟩ := place_cells HPR.out
          clear hm
          go_wp2
          refine bodyPost_ret (v := .agg #[.int .i64 _, .int .i64 _]) (results_cell_row rfl _ _ B _ _ _ _ rfl (place_set HPR.out) Try.underlying52 rfl (by kernel_rfl)) rfl ⟨by rw [← HQ.out] <;> rfl, (HX1.out.trans HXR.out).set2 HBW.out _ _⟩
        · have HN : Hid (placeAt n (s.ps.drop (k + 1)) (k + 1) = q) := Lib.hid (by rw [← HPL.out, HD2.out, if_neg hm])
          rw [decide_eq_false hm]
          clear hm
          go_wp2
          go_roundw
          case rel => exact ⟨k + 1, by omega, by go_num, HN.out, HX5.out⟩
          case measure => simp [intOf]; omega
    · obtain rfl : k = s.ps.length := by omega
      have HQ : Hid ((3, 0) = q) := Lib.hid (by rw [← HPL.out, List.drop_length]; rfl)
      have HPR := Lib.hid (HX.out.blk HP2.out)
      have HXR := Lib.hid (HX2.out.trans HX.out)
      obtain ⟨⟨r0, r1⟩, y0, y1⟩ := place_cells HPR.out
      go_wp2
      refine bodyPost_ret (v := .agg #[.int .i64 _, .int .i64 _]) (results_cell_row rfl _ _ B _ _ _ _ rfl (place_set HPR.out) Try.underlying52 rfl (by kernel_rfl)) rfl ⟨by rw [← HQ.out] <;> rfl, (HX1.out.trans HXR.out).set2 HBW.out _ _⟩
set_option maxRecDepth 100000 in
set_option maxHeartbeats 4000000 in
theorem ratP_any (h : StH) (s : St) (n : Int) (q : Int × Int) (hq : placeAt n s.ps 0 = q) (w : World) (hk : StOk w h s) (hf : StFew s) : Calls Try.prog 82 #[stV h s, .int .i64 n] w fun e w' => e = .returned (plV q) ∧ Ext w w' := by
  have f1 := hf.ps
  have HK := Lib.hid hk
  obtain ⟨w1, hw1⟩ : ∃ w1, w.alloc (.cells #[.slice h.pa s.prog.length h.pc, .slice h.ga s.gs.length h.gc, .slice h.qa s.ps.length h.qc, .slice h.ma s.ms.length h.mc, .slice h.la s.glob.length h.lc, .int .i64 s.c0, .int .i64 s.c1, .int .i64 s.c2, .int .i64 s.c3, .slice h.a0 s.w0.length h.k0, .slice h.a1 s.w1.length h.k1, .slice h.a2 s.w2.length h.k2, .slice h.a3 s.w3.length h.k3, .slice h.ta s.timers.length h.tc, .int .i64 s.clock, .int .i64 s.procs] 32) = w1 := ⟨_, rfl⟩
  have HX1 : Hid (Ext w w1) := Lib.hid (by rw [← hw1]; exact (Ext.refl w).alloc _)
  have HB1 : Hid (w1.heap[w.heap.size]? = some (.cells (stC h s) 32 (0, 0))) := Lib.hid (by rw [← hw1]; exact blk_new w _)
  have HK1 := Lib.hid (hk.ext HX1.out)
  have HW1 := Lib.hid hw1
  clear hw1 hk
  clear hf
  obtain ⟨B, hB⟩ : ∃ B, w1.heap.size = B := ⟨_, rfl⟩
  have HB := Lib.hid hB
  obtain ⟨w2, hw2⟩ : ∃ w2, w1.alloc (.cells #[.int .i64 0, .int .i64 0] 52) = w2 := ⟨_, rfl⟩
  have HW2 := Lib.hid hw2
  have HX2 : Hid (Ext w1 w2) := Lib.hid (by rw [← hw2]; exact (Ext.refl w1).alloc _)
  have HP2 : Hid (w2.heap[B]? = some (.cells #[.int .i64 0, .int .i64 0] 52 (0, 0))) := Lib.hid (by rw [← hw2, ← hB]; exact blk_new w1 _)
  have HBW : Hid (w.heap.size ≤ B) := Lib.hid (by rw [← hB]; exact HX1.out.size)
  clear hB hw2
  have HQ0 := Lib.hid hq
  clear hq
  unfold stV
  go_enter Try.func82, Try.ntmps82
  go_upto_region 1 with (first | rw [HW1.out] | rw [HW2.out])
  rw [HB.out]
  generalize Value.agg #[.slice h.pa s.prog.length h.pc, .slice h.ga s.gs.length h.gc, .slice h.qa s.ps.length h.qc, .slice h.ma s.ms.length h.mc, .slice h.la s.glob.length h.lc, .int .i64 s.c0, .int .i64 s.c1, .int .i64 s.c2, .int .i64 s.c3, .slice h.a0 s.w0.length h.k0, .slice h.a1 s.w1.length h.k1, .slice h.a2 s.w2.length h.k2, .slice h.a3 s.w3.length h.k3, .slice h.ta s.timers.length h.tc, .int .i64 s.clock, .int .i64 s.procs] = sv0
  go_wp2_with fail
  go_loopw [5] (fun iv wr => ∃ k : Nat, k ≤ s.ps.length ∧ iv = .int .i64 k ∧ placeAt n (s.ps.drop k) k = q ∧ Ext w2 wr) (fun iv _ => s.ps.length - (intOf iv).toNat)
  case atStart => exact ⟨0, by omega, rfl, HQ0.out, Ext.refl _⟩
  case round =>
    obtain ⟨k, hk, rfl, hpl, hx⟩ := hrel
    have HX := Lib.hid hx
    have HPL := Lib.hid hpl
    clear hx hpl
    have q2 := st2 ((HX2.out.trans HX.out).blk HB1.out)
    by_cases hlt : k < s.ps.length
    · obtain ⟨p, hp⟩ : ∃ p, s.ps[k]? = some p := ⟨_, List.getElem?_eq_getElem hlt⟩
      obtain ⟨m, nx, r, sq⟩ := p
      obtain ⟨b0, b1, b2, b3, b4, b5, b6, b7, hd, nn, rfl⟩ := Ri.open8 (HK.out.buf _ (List.mem_of_getElem? hp))
      obtain ⟨b, o, hA, hb, hc⟩ := ps_get (HK1.out.ext (HX2.out.trans HX.out)).ps hp
      rw [hA] at q2
      obtain ⟨⟨p0, p1, p2, p3, p4, p5, p6⟩, p7, p8, p9, p10, p11, p12⟩ := hc
      obtain ⟨l, hl⟩ : ∃ l, Ri.list ⟨[b0, b1, b2, b3, b4, b5, b6, b7], hd, nn⟩ = l := ⟨_, rfl⟩
      have HL := Lib.hid hl
      have hl8 : Hid (l.length ≤ 8) := Lib.hid (by rw [← hl]; exact Ri.list_len _)
      have HD : Hid (placeAt n (s.ps.drop k) k = if nx = n then (1, (k : Int) + 1) else if n ∈ l then (2, (k : Int) + 1) else placeAt n (s.ps.drop (k + 1)) (k + 1)) := Lib.hid (by rw [drop_next hp, placeAt, ← hl])
      clear hp hb hl hA
      by_cases h1 : nx = n
      · have HQ : Hid ((1, (k : Int) + 1) = q) := Lib.hid (by rw [← HPL.out, HD.out, if_pos h1])
        have h1' : (nx == n) = true := by simpa using h1
        have HPR := Lib.hid (HX.out.blk HP2.out)
        have HXR := Lib.hid (HX2.out.trans HX.out)
        obtain ⟨⟨r0, r1⟩, y0, y1⟩ := place_cells HPR.out
        clear h1
        go_wp2
        refine bodyPost_ret (v := .agg #[.int .i64 _, .int .i64 _]) (results_cell_row rfl _ _ B _ _ _ _ rfl (place_set HPR.out) Try.underlying52 rfl (by kernel_rfl)) rfl ⟨by rw [← HQ.out] <;> rfl, (HX1.out.trans HXR.out).set2 HBW.out _ _⟩
      · have h1' : (nx == n) = false := by simpa using h1
        have HD2 : Hid (placeAt n (s.ps.drop k) k = if n ∈ l then (2, (k : Int) + 1) else placeAt n (s.ps.drop (k + 1)) (k + 1)) := Lib.hid (by rw [HD.out, if_neg h1])
        clear h1
        go_wp2_with fail
        refine (rrlist_k b0 b1 b2 b3 b4 b5 b6 b7 hd nn l HL.out _).mono ?_
        rintro e w5 ⟨v5, rfl, ho5, hx5⟩
        obtain ⟨A5, c5, rfl⟩ := ho5.form
        clear p0 p1 p2 p3 p4 p5 p6 p7 p8 p9 p10 p11 p12
        have HX5 := Lib.hid (HX.out.trans hx5)
        have HCN := Lib.hid (rtimes_any _ l n _ ho5.at.2 (by have := hl8.out; omega))
        have HTL : Hid (St.times l n ≤ 8) := Lib.hid (Nat.le_trans (times_le l n) hl8.out)
        clear ho5 hx5 q2
        go_wp2_with fail
        refine HCN.out.mono ?_
        rintro e w' ⟨rfl, rfl⟩
        by_cases hm : n ∈ l
        · have HQ : Hid ((2, (k : Int) + 1) = q) := Lib.hid (by rw [← HPL.out, HD2.out, if_pos hm])
          have hmt : ((0 : Int) < (St.times l n : Int)) := by have := List.count_pos_iff.2 hm; unfold St.times; omega
          have HPR := Lib.hid (HX5.out.blk HP2.out)
          have HXR := Lib.hid (HX2.out.trans HX5.out)
          obtain ⟨⟨r0, r1⟩, y0, y1⟩ := place_cells HPR.out
          clear hm
          go_wp2
          refine bodyPost_ret (v := .agg #[.int .i64 _, .int .i64 _]) (results_cell_row rfl _ _ B _ _ _ _ rfl (place_set HPR.out) Try.underlying52 rfl (by kernel_rfl)) rfl ⟨by rw [← HQ.out] <;> rfl, (HX1.out.trans HXR.out).set2 HBW.out _ _⟩
        · have HN : Hid (placeAt n (s.ps.drop (k + 1)) (k + 1) = q) := Lib.hid (by rw [← HPL.out, HD2.out, if_neg hm])
          have hmt : St.times l n = 0 := by unfold St.times; exact List.count_eq_zero.2 hm
          rw [hmt]
          clear hm hmt
          go_wp2
          go_roundw
          case rel => exact ⟨k + 1, by omega, by go_num, HN.out, HX5.out⟩
          case measure => simp [intOf]; omega
    · obtain rfl : k = s.ps.length := by omega
      have HQ : Hid ((3, 0) = q) := Lib.hid (by rw [← HPL.out, List.drop_length]; rfl)
      have HPR := Lib.hid (HX.out.blk HP2.out)
      have HXR := Lib.hid (HX2.out.trans HX.out)
      obtain ⟨⟨r0, r1⟩, y0, y1⟩ := place_cells HPR.out
      go_wp2
      refine bodyPost_ret (v := .agg #[.int .i64 _, .int .i64 _]) (results_cell_row rfl _ _ B _ _ _ _ rfl (place_set HPR.out) Try.underlying52 rfl (by kernel_rfl)) rfl ⟨by rw [← HQ.out] <;> rfl, (HX1.out.trans HXR.out).set2 HBW.out _ _⟩
set_option maxRecDepth 100000 in
set_option maxHeartbeats 4000000 in
theorem swaiting_any (h : StH) (s : St) (n : Int) (q : Int × Int) (hq : waitAt n s.wts 0 = q) (w : World) (hk : StOk w h s) (hf : StFew s) : Calls Try.prog 95 #[stV h s, .int .i64 n] w fun e w' => e = .returned (plV q) ∧ Ext w w' := by
  have F2 := Lib.hid hf.w
  have HK := Lib.hid hk
  obtain ⟨w1, hw1⟩ : ∃ w1, w.alloc (.cells #[.slice h.pa s.prog.length h.pc, .slice h.ga s.gs.length h.gc, .slice h.qa s.ps.length h.qc, .slice h.ma s.ms.length h.mc, .slice h.la s.glob.length h.lc, .int .i64 s.c0, .int .i64 s.c1, .int .i64 s.c2, .int .i64 s.c3, .slice h.a0 s.w0.length h.k0, .slice h.a1 s.w1.length h.k1, .slice h.a2 s.w2.length h.k2, .slice h.a3 s.w3.length h.k3, .slice h.ta s.timers.length h.tc, .int .i64 s.clock, .int .i64 s.procs] 32) = w1 := ⟨_, rfl⟩
  have HX1 : Hid (Ext w w1) := Lib.hid (by rw [← hw1]; exact (Ext.refl w).alloc _)
  have HB1 : Hid (w1.heap[w.heap.size]? = some (.cells (stC h s) 32 (0, 0))) := Lib.hid (by rw [← hw1]; exact blk_new w _)
  have HK1 := Lib.hid (hk.ext HX1.out)
  have HW1 := Lib.hid hw1
  clear hw1 hk
  clear hf
  obtain ⟨B, hB⟩ : ∃ B, w1.heap.size = B := ⟨_, rfl⟩
  have HB := Lib.hid hB
  obtain ⟨w2, hw2⟩ : ∃ w2, w1.alloc (.cells #[.int .i64 0, .int .i64 0] 52) = w2 := ⟨_, rfl⟩
  have HW2 := Lib.hid hw2
  have HX2 : Hid (Ext w1 w2) := Lib.hid (by rw [← hw2]; exact (Ext.refl w1).alloc _)
  have HP2 : Hid (w2.heap[B]? = some (.cells #[.int .i64 0, .int .i64 0] 52 (0, 0))) := Lib.hid (by rw [← hw2, ← hB]; exact blk_new w1 _)
  have HBW : Hid (w.heap.size ≤ B) := Lib.hid (by rw [← hB]; exact HX1.out.size)
  clear hB hw2
  have HQ0 := Lib.hid hq
  clear hq
  have q9 := st9 (HX2.out.blk HB1.out)
  have q10 := st10 (HX2.out.blk HB1.out)
  have q11 := st11 (HX2.out.blk HB1.out)
  have q12 := st12 (HX2.out.blk HB1.out)
  unfold stV
  go_enter Try.func95, Try.ntmps95
  go_upto_region 1 with (first | rw [HW1.out] | rw [HW2.out])
  rw [HB.out]
  generalize Value.agg #[.slice h.pa s.prog.length h.pc, .slice h.ga s.gs.length h.gc, .slice h.qa s.ps.length h.qc, .slice h.ma s.ms.length h.mc, .slice h.la s.glob.length h.lc, .int .i64 s.c0, .int .i64 s.c1, .int .i64 s.c2, .int .i64 s.c3, .slice h.a0 s.w0.length h.k0, .slice h.a1 s.w1.length h.k1, .slice h.a2 s.w2.length h.k2, .slice h.a3 s.w3.length h.k3, .slice h.ta s.timers.length h.tc, .int .i64 s.clock, .int .i64 s.procs] = sv0
  go_wp2_with fail
  clear q9 q10 q11 q12
  go_loopw [9] (fun iv wr => ∃ k : Nat, k ≤ 4 ∧ iv = .int .i64 k ∧ waitAt n (s.wts.drop k) k = q ∧ wr = w2) (fun iv _ => 4 - (intOf iv).toNat)
  case atStart => exact ⟨0, by omega, rfl, HQ0.out, rfl⟩
  case round =>
    obtain ⟨k, hk, rfl, hpl, rfl⟩ := hrel
    have HPL := Lib.hid hpl
    clear hpl
    by_cases hlt : k < 4
    · obtain ⟨A0, d0, l, hcell, hI, hl⟩ := HK1.out.wait hlt
      have hidx : ∀ w, (Instr.index 29 (.agg #[.slice h.a0 s.w0.length h.k0, .slice h.a1 s.w1.length h.k1, .slice h.a2 s.w2.length h.k2, .slice h.a3 s.w3.length h.k3]) (.int .i64 (k : Int))).run Try.prog w = .ok (.slice A0 l.length d0) w := fun w => by
        obtain rfl | rfl | rfl | rfl : k = 0 ∨ k = 1 ∨ k = 2 ∨ k = 3 := by omega
        · have he : Value.slice h.a0 s.w0.length h.k0 = .slice A0 l.length d0 := Option.some.inj hcell
          refine Eq.trans (b := .ok (.slice h.a0 s.w0.length h.k0) w) ?_ (by rw [he])
          kernel_rfl
        · have he : Value.slice h.a1 s.w1.length h.k1 = .slice A0 l.length d0 := Option.some.inj hcell
          refine Eq.trans (b := .ok (.slice h.a1 s.w1.length h.k1) w) ?_ (by rw [he])
          kernel_rfl
        · have he : Value.slice h.a2 s.w2.length h.k2 = .slice A0 l.length d0 := Option.some.inj hcell
          refine Eq.trans (b := .ok (.slice h.a2 s.w2.length h.k2) w) ?_ (by rw [he])
          kernel_rfl
        · have he : Value.slice h.a3 s.w3.length h.k3 = .slice A0 l.length d0 := Option.some.inj hcell
          refine Eq.trans (b := .ok (.slice h.a3 s.w3.length h.k3) w) ?_ (by rw [he])
          kernel_rfl
      have HCN := Lib.hid (scontains_any _ l n _ rfl wr (hI.ext HX2.out) (by have := wts_few F2.out hl; omega))
      have HD : Hid (waitAt n (s.wts.drop k) k = if n ∈ l then (5, (k : Int)) else waitAt n (s.wts.drop (k + 1)) (k + 1)) := Lib.hid (by rw [drop_next hl, waitAt])
      clear hcell hI hl
      go_wp2_with fail
      refine HCN.out.mono ?_
      rintro e w' ⟨rfl, rfl⟩
      clear hidx
      by_cases hm : n ∈ l
      · have HQ : Hid ((5, (k : Int)) = q) := Lib.hid (by rw [← HPL.out, HD.out, if_pos hm])
        rw [decide_eq_true hm]
        have HPR := Lib.hid HP2.out
        have HXR := Lib.hid HX2.out
        obtain ⟨⟨r0, r1⟩, y0, y1⟩ := place_cells HPR.out
        clear hm
        go_wp2
        refine bodyPost_ret (v := .agg #[.int .i64 _, .int .i64 _]) (results_cell_row rfl _ _ B _ _ _ _ rfl (place_set HPR.out) Try.underlying52 rfl (by kernel_rfl)) rfl ⟨by rw [← HQ.out] <;> rfl, (HX1.out.trans HXR.out).set2 HBW.out _ _⟩
      · have HN : Hid (waitAt n (s.wts.drop (k + 1)) (k + 1) = q) := Lib.hid (by rw [← HPL.out, HD.out, if_neg hm])
        rw [decide_eq_false hm]
        clear hm
        go_wp2
        go_roundw
        case rel => exact ⟨k + 1, by omega, by go_num, HN.out, trivial⟩
        case measure => simp [intOf]; omega
    · have HQ : Hid ((6, 0) = q) := Lib.hid (by
        obtain rfl : k = 4 := by omega
        rw [← HPL.out]; rfl)
      have HPR := Lib.hid HP2.out
      have HXR := Lib.hid HX2.out
      obtain ⟨⟨r0, r1⟩, y0, y1⟩ := place_cells HPR.out
      go_wp2
      refine bodyPost_ret (v := .agg #[.int .i64 _, .int .i64 _]) (results_cell_row rfl _ _ B _ _ _ _ rfl (place_set HPR.out) Try.underlying52 rfl (by kernel_rfl)) rfl ⟨by rw [← HQ.out] <;> rfl, (HX1.out.trans HXR.out).set2 HBW.out _ _⟩
end Go.Proofs.Ytogcfndhcphpaaa
namespace Go.Proofs.Ytogcfndhcphpaaa
open Go.RowKit
theorem run_eqPlace (a b a' b' : Int) (w : World) : (Op.equalIn 10000 52 (.agg #[.int .i64 a, .int .i64 b]) (.agg #[.int .i64 a', .int .i64 b'])).run Try.prog w = .ok (decide ([a, b] = [a', b'])) w :=
  run_eqInts (ti := 3) Try.underlying3 (by kernel_rfl) (by kernel_rfl) 2 (by kernel_rfl) [a, b] [a', b'] rfl rfl w
end Go.Proofs.Ytogcfndhcphpaaa
namespace Go.Proofs.Ytogcfndhcphpaaa
open Go.RowKit
def St.placeOf (s : St) (n : Int) (g : Gr) : Int × Int := if g.st = 1 then placeAt n s.ps 0 else if g.st = 2 then (4, g.m) else if g.st = 4 then (7, g.m) else if g.st = 5 then (8, 0) else waitAt n s.wts 0
def St.place (s : St) (n : Int) : Int × Int := if 1 ≤ n ∧ n ≤ s.gs.length ∧ s.may = true then s.placeOf n (s.gs.getD (n - 1).toNat St.nilG) else (0, 0)
theorem St.place_no {s : St} {p : Int} (h : ¬ (1 ≤ p ∧ p ≤ s.gs.length ∧ s.may = true)) : s.place p = (0, 0) := if_neg h
theorem St.place_yes {s : St} {j : Nat} {g : Gr} (h2 : s.may = true) (hg : s.gs[j]? = some g) : s.place ((j : Int) + 1) = s.placeOf ((j : Int) + 1) g := by
  have := (List.getElem?_eq_some_iff.1 hg).1
  unfold St.place
  rw [if_pos ⟨by omega, by omega, h2⟩, show ((j : Int) + 1 - 1).toNat = j by omega, List.getD, hg]
  rfl
theorem St.may_st {s : St} (h : s.may = true) {j : Nat} {g : Gr} (hg : s.gs[j]? = some g) : 1 ≤ g.st ∧ g.st ≤ 5 := by
  have := St.may_stands h hg
  unfold St.stands at this
  rw [Bool.and_eq_true, Bool.and_eq_true, decide_eq_true_eq] at this
  exact this.1.1
set_option maxRecDepth 100000 in
set_option maxHeartbeats 8000000 in
theorem sPlace_any (h : StH) (s : St) (n : Int) (q : Int × Int) (hq : s.place n = q) (w : World) (hk : StOk w h s) (hf : StFew s) : Calls Try.prog 39 #[stV h s, .int .i64 n] w fun e w' => e = .returned (plV q) ∧ Ext w w' := by
  have HF := Lib.hid hf
  have f1 := hf.gs
  have F2 := Lib.hid hf.w
  have HK := Lib.hid hk
  obtain ⟨w1, hw1⟩ : ∃ w1, w.alloc (.cells #[.slice h.pa s.prog.length h.pc, .slice h.ga s.gs.length h.gc, .slice h.qa s.ps.length h.qc, .slice h.ma s.ms.length h.mc, .slice h.la s.glob.length h.lc, .int .i64 s.c0, .int .i64 s.c1, .int .i64 s.c2, .int .i64 s.c3, .slice h.a0 s.w0.length h.k0, .slice h.a1 s.w1.length h.k1, .slice h.a2 s.w2.length h.k2, .slice h.a3 s.w3.length h.k3, .slice h.ta s.timers.length h.tc, .int .i64 s.clock, .int .i64 s.procs] 32) = w1 := ⟨_, rfl⟩
  have HX1 : Hid (Ext w w1) := Lib.hid (by rw [← hw1]; exact (Ext.refl w).alloc _)
  have HB1 : Hid (w1.heap[w.heap.size]? = some (.cells (stC h s) 32 (0, 0))) := Lib.hid (by rw [← hw1]; exact blk_new w _)
  have HK1 := Lib.hid (hk.ext HX1.out)
  have HW1 := Lib.hid hw1
  clear hw1 hk
  clear hf
  obtain ⟨B, hB⟩ : ∃ B, w1.heap.size = B := ⟨_, rfl⟩
  have HB := Lib.hid hB
  obtain ⟨w2, hw2⟩ : ∃ w2, w1.alloc (.cells #[.int .i64 0, .int .i64 0] 52) = w2 := ⟨_, rfl⟩
  have HW2 := Lib.hid hw2
  have HX2 : Hid (Ext w1 w2) := Lib.hid (by rw [← hw2]; exact (Ext.refl w1).alloc _)
  have HP2 : Hid (w2.heap[B]? = some (.cells #[.int .i64 0, .int .i64 0] 52 (0, 0))) := Lib.hid (by rw [← hw2, ← hB]; exact blk_new w1 _)
  have HBW : Hid (w.heap.size ≤ B) := Lib.hid (by rw [← hB]; exact HX1.out.size)
  clear hB hw2
  have HQ0 := Lib.hid hq
  clear hq
  have q1 := st1 (HX2.out.blk HB1.out)
  have HLD := Lib.hid (HX2.out.blk HB1.out)
  unfold stV
  go_enter Try.func39, Try.ntmps39
  go_upto_region 1 with (first | rw [HW1.out] | rw [HW2.out])
  rw [HB.out]
  generalize Value.agg #[.slice h.pa s.prog.length h.pc, .slice h.ga s.gs.length h.gc, .slice h.qa s.ps.length h.qc, .slice h.ma s.ms.length h.mc, .slice h.la s.glob.length h.lc, .int .i64 s.c0, .int .i64 s.c1, .int .i64 s.c2, .int .i64 s.c3, .slice h.a0 s.w0.length h.k0, .slice h.a1 s.w1.length h.k1, .slice h.a2 s.w2.length h.k2, .slice h.a3 s.w3.length h.k3, .slice h.ta s.timers.length h.tc, .int .i64 s.clock, .int .i64 s.procs] = sv0
  by_cases a1 : n < 1
  · have HQ : Hid ((0, 0) = q) := Lib.hid (by rw [← HQ0.out, St.place_no (by omega)])
    have HPR := Lib.hid HP2.out
    have HXR := Lib.hid HX2.out
    obtain ⟨⟨r0, r1⟩, y0, y1⟩ := place_cells HPR.out
    go_wp2
    refine bodyPost_ret (v := .agg #[.int .i64 _, .int .i64 _]) (results_cell_row rfl _ _ B _ _ _ _ rfl (place_set HPR.out) Try.underlying52 rfl (by kernel_rfl)) rfl ⟨by rw [← HQ.out] <;> rfl, (HX1.out.trans HXR.out).set2 HBW.out _ _⟩
  by_cases a2 : (s.gs.length : Int) < n
  · have HQ : Hid ((0, 0) = q) := Lib.hid (by rw [← HQ0.out, St.place_no (by omega)])
    have HPR := Lib.hid HP2.out
    have HXR := Lib.hid HX2.out
    obtain ⟨⟨r0, r1⟩, y0, y1⟩ := place_cells HPR.out
    go_wp2
    refine bodyPost_ret (v := .agg #[.int .i64 _, .int .i64 _]) (results_cell_row rfl _ _ B _ _ _ _ rfl (place_set HPR.out) Try.underlying52 rfl (by kernel_rfl)) rfl ⟨by rw [← HQ.out] <;> rfl, (HX1.out.trans HXR.out).set2 HBW.out _ _⟩
  go_wp2_with (refine wpList_load_rowW rfl 32 _ rfl w.heap.size rfl (stL h s) (stV h s) rfl _ (range_row HLD.out) Try.underlying32 rfl (by kernel_rfl) ?_)
  refine (sstmay_any h s _ rfl _ (HK1.out.ext HX2.out) HF.out).mono ?_
  rintro e w3 ⟨rfl, hx3⟩
  have HX3 := Lib.hid (HX2.out.trans hx3)
  have HP3 := Lib.hid (hx3.blk HP2.out)
  clear hx3 q1 HLD
  cases bm : s.may with
  | false =>
    have HQ : Hid ((0, 0) = q) := Lib.hid (by rw [← HQ0.out, St.place_no (fun h => by rw [bm] at h; exact absurd h.2.2 (by simp))])
    have HPR := Lib.hid HP3.out
    have HXR := Lib.hid HX3.out
    obtain ⟨⟨r0, r1⟩, y0, y1⟩ := place_cells HPR.out
    go_wp2
    refine bodyPost_ret (v := .agg #[.int .i64 _, .int .i64 _]) (results_cell_row rfl _ _ B _ _ _ _ rfl (place_set HPR.out) Try.underlying52 rfl (by kernel_rfl)) rfl ⟨by rw [← HQ.out] <;> rfl, (HX1.out.trans HXR.out).set2 HBW.out _ _⟩
  | true =>
    obtain ⟨j, rfl⟩ : ∃ j : Nat, n = (j : Int) + 1 := ⟨(n - 1).toNat, by omega⟩
    obtain ⟨g, hg⟩ : ∃ g, s.gs[j]? = some g := ⟨_, List.getElem?_eq_getElem (by omega)⟩
    have hst := St.may_st bm hg
    have HPO : Hid (s.placeOf ((j : Int) + 1) g = q) := Lib.hid (by rw [← HQ0.out, St.place_yes bm hg])
    obtain ⟨b, o, hA, hb, p0, p1, p2, p3, p4⟩ := gs_get (HK1.out.ext HX3.out).gs hg
    obtain ⟨fn, pc, st, m, sq⟩ := g
    simp only at p0 p1 p2 p3 p4 hst
    have e1 : (j : Int) + 1 - 1 = (j : Int) := by omega
    have e4 : (j : Int) < (s.gs.length : Int) := by omega
    obtain ⟨w4, hw4⟩ : ∃ w4, w3.alloc (.cells #[.int .i64 fn, .int .i64 pc, .int .i64 st, .int .i64 m, .int .i64 sq] 55) = w4 := ⟨_, rfl⟩
    have HW4 := Lib.hid hw4
    have HX4 : Hid (Ext w1 w4) := Lib.hid (by rw [← hw4]; exact HX3.out.alloc _)
    have HG4 : Hid (w4.heap[w3.heap.size]? = some (.cells #[.int .i64 fn, .int .i64 pc, .int .i64 st, .int .i64 m, .int .i64 sq] 55 (0, 0))) := Lib.hid (by rw [← hw4]; exact blk_new w3 _)
    have HP4 : Hid (w4.heap[B]? = some (.cells #[.int .i64 0, .int .i64 0] 52 (0, 0))) := Lib.hid (by rw [← hw4]; exact blk_alloc HP3.out _)
    have q1 := st1 (HX3.out.blk HB1.out)
    have HA := Lib.hid hA
    clear hg hb a1 a2 hw4 hA
    have hA := HA.out
    go_upto_region 4 with fail
    rw [HW4.out]
    clear p0 p1 p2 p3 p4 q1 hA e1 e4
    have HLD := Lib.hid (HX4.out.blk HB1.out)
    have z2 := blk_cell HG4.out 2 _ rfl
    by_cases s1 : st = 1
    · subst s1
      obtain ⟨qa, qb, hqq⟩ : ∃ qa qb, (qa, qb) = q := ⟨q.1, q.2, rfl⟩
      have HQ := Lib.hid hqq
      clear hqq
      have HSC : Hid (Calls Try.prog 94 #[stV h s, .int .i64 ((j : Int) + 1)] w4 fun e w' => e = .returned (.agg #[.int .i64 qa, .int .i64 qb]) ∧ Ext w4 w') := Lib.hid (squeued_any h s ((j : Int) + 1) (qa, qb) (by rw [HQ.out, ← HPO.out]; rfl) w4 (HK1.out.ext HX4.out) HF.out)
      go_wp2_with (refine wpList_load_rowW rfl 32 _ rfl w.heap.size rfl (stL h s) (stV h s) rfl _ (range_row HLD.out) Try.underlying32 rfl (by kernel_rfl) ?_)
      refine HSC.out.mono ?_
      rintro e w5 ⟨rfl, hx5⟩
      have HXR := Lib.hid (HX4.out.trans hx5)
      have HPR := Lib.hid (hx5.blk HP4.out)
      clear z2 hx5
      obtain ⟨⟨r0, r1⟩, y0, y1⟩ := place_cells HPR.out
      go_wp2
      refine bodyPost_ret (v := .agg #[.int .i64 _, .int .i64 _]) (results_cell_row rfl _ _ B _ _ _ _ rfl (place_set HPR.out) Try.underlying52 rfl (by kernel_rfl)) rfl ⟨by rw [← HQ.out] <;> rfl, (HX1.out.trans HXR.out).set2 HBW.out _ _⟩
    have HXR := Lib.hid HX4.out
    have HPR := Lib.hid HP4.out
    have s1' : (st == 1) = false := by simpa using s1
    by_cases s2 : st = 2
    · subst s2
      have HQ : Hid ((4, m) = q) := Lib.hid (by rw [← HPO.out]; rfl)
      have z3 := blk_cell HG4.out 3 _ rfl
      clear s1
      obtain ⟨⟨r0, r1⟩, y0, y1⟩ := place_cells HPR.out
      go_wp2
      refine bodyPost_ret (v := .agg #[.int .i64 _, .int .i64 _]) (results_cell_row rfl _ _ B _ _ _ _ rfl (place_set HPR.out) Try.underlying52 rfl (by kernel_rfl)) rfl ⟨by rw [← HQ.out] <;> rfl, (HX1.out.trans HXR.out).set2 HBW.out _ _⟩
    have s2' : (st == 2) = false := by simpa using s2
    by_cases s3 : st = 3
    · subst s3
      obtain ⟨qa, qb, hqq⟩ : ∃ qa qb, (qa, qb) = q := ⟨q.1, q.2, rfl⟩
      have HQ := Lib.hid hqq
      clear hqq
      have HSC : Hid (Calls Try.prog 95 #[stV h s, .int .i64 ((j : Int) + 1)] w4 fun e w' => e = .returned (.agg #[.int .i64 qa, .int .i64 qb]) ∧ Ext w4 w') := Lib.hid (swaiting_any h s ((j : Int) + 1) (qa, qb) (by rw [HQ.out, ← HPO.out]; rfl) w4 (HK1.out.ext HX4.out) HF.out)
      clear s1 s2
      go_wp2_with (refine wpList_load_rowW rfl 32 _ rfl w.heap.size rfl (stL h s) (stV h s) rfl _ (range_row HLD.out) Try.underlying32 rfl (by kernel_rfl) ?_)
      refine HSC.out.mono ?_
      rintro e w5 ⟨rfl, hx5⟩
      clear HXR HPR
      have HXR := Lib.hid (HX4.out.trans hx5)
      have HPR := Lib.hid (hx5.blk HP4.out)
      clear z2 hx5
      obtain ⟨⟨r0, r1⟩, y0, y1⟩ := place_cells HPR.out
      go_wp2
      refine bodyPost_ret (v := .agg #[.int .i64 _, .int .i64 _]) (results_cell_row rfl _ _ B _ _ _ _ rfl (place_set HPR.out) Try.underlying52 rfl (by kernel_rfl)) rfl ⟨by rw [← HQ.out] <;> rfl, (HX1.out.trans HXR.out).set2 HBW.out _ _⟩
    have s3' : (st == 3) = false := by simpa using s3
    by_cases s4 : st = 4
    · subst s4
      have HQ : Hid ((7, m) = q) := Lib.hid (by rw [← HPO.out]; rfl)
      have z3 := blk_cell HG4.out 3 _ rfl
      clear s1 s2
      obtain ⟨⟨r0, r1⟩, y0, y1⟩ := place_cells HPR.out
      go_wp2
      refine bodyPost_ret (v := .agg #[.int .i64 _, .int .i64 _]) (results_cell_row rfl _ _ B _ _ _ _ rfl (place_set HPR.out) Try.underlying52 rfl (by kernel_rfl)) rfl ⟨by rw [← HQ.out] <;> rfl, (HX1.out.trans HXR.out).set2 HBW.out _ _⟩
    have s4' : (st == 4) = false := by simpa using s4
    obtain rfl : st = 5 := by omega
    have HQ : Hid ((8, 0) = q) := Lib.hid (by rw [← HPO.out]; rfl)
    clear s1 s2 s3 s4
    obtain ⟨⟨r0, r1⟩, y0, y1⟩ := place_cells HPR.out
    go_wp2
    refine bodyPost_ret (v := .agg #[.int .i64 _, .int .i64 _]) (results_cell_row rfl _ _ B _ _ _ _ rfl (place_set HPR.out) Try.underlying52 rfl (by kernel_rfl)) rfl ⟨by rw [← HQ.out] <;> rfl, (HX1.out.trans HXR.out).set2 HBW.out _ _⟩
set_option maxRecDepth 100000 in
set_option maxHeartbeats 8000000 in
theorem rPlace_any (h : StH) (s : St) (n : Int) (q : Int × Int) (hq : s.place n = q) (w : World) (hk : StOk w h s) (hf : StFew s) : Calls Try.prog 28 #[stV h s, .int .i64 n] w fun e w' => e = .returned (plV q) ∧ Ext w w' := by
  have HF := Lib.hid hf
  have f1 := hf.gs
  have F2 := Lib.hid hf.w
  have HK := Lib.hid hk
  obtain ⟨w1, hw1⟩ : ∃ w1, w.alloc (.cells #[.slice h.pa s.prog.length h.pc, .slice h.ga s.gs.length h.gc, .slice h.qa s.ps.length h.qc, .slice h.ma s.ms.length h.mc, .slice h.la s.glob.length h.lc, .int .i64 s.c0, .int .i64 s.c1, .int .i64 s.c2, .int .i64 s.c3, .slice h.a0 s.w0.length h.k0, .slice h.a1 s.w1.length h.k1, .slice h.a2 s.w2.length h.k2, .slice h.a3 s.w3.length h.k3, .slice h.ta s.timers.length h.tc, .int .i64 s.clock, .int .i64 s.procs] 32) = w1 := ⟨_, rfl⟩
  have HX1 : Hid (Ext w w1) := Lib.hid (by rw [← hw1]; exact (Ext.refl w).alloc _)
  have HB1 : Hid (w1.heap[w.heap.size]? = some (.cells (stC h s) 32 (0, 0))) := Lib.hid (by rw [← hw1]; exact blk_new w _)
  have HK1 := Lib.hid (hk.ext HX1.out)
  have HW1 := Lib.hid hw1
  clear hw1 hk
  clear hf
  obtain ⟨B, hB⟩ : ∃ B, w1.heap.size = B := ⟨_, rfl⟩
  have HB := Lib.hid hB
  obtain ⟨w2, hw2⟩ : ∃ w2, w1.alloc (.cells #[.int .i64 0, .int .i64 0] 52) = w2 := ⟨_, rfl⟩
  have HW2 := Lib.hid hw2
  have HX2 : Hid (Ext w1 w2) := Lib.hid (by rw [← hw2]; exact (Ext.refl w1).alloc _)
  have HP2 : Hid (w2.heap[B]? = some (.cells #[.int .i64 0, .int .i64 0] 52 (0, 0))) := Lib.hid (by rw [← hw2, ← hB]; exact blk_new w1 _)
  have HBW : Hid (w.heap.size ≤ B) := Lib.hid (by rw [← hB]; exact HX1.out.size)
  clear hB hw2
  have HQ0 := Lib.hid hq
  clear hq
  have q1 := st1 (HX2.out.blk HB1.out)
  have HLD := Lib.hid (HX2.out.blk HB1.out)
  unfold stV
  go_enter Try.func28, Try.ntmps28
  go_upto_region 1 with (first | rw [HW1.out] | rw [HW2.out])
  rw [HB.out]
  generalize Value.agg #[.slice h.pa s.prog.length h.pc, .slice h.ga s.gs.length h.gc, .slice h.qa s.ps.length h.qc, .slice h.ma s.ms.length h.mc, .slice h.la s.glob.length h.lc, .int .i64 s.c0, .int .i64 s.c1, .int .i64 s.c2, .int .i64 s.c3, .slice h.a0 s.w0.length h.k0, .slice h.a1 s.w1.length h.k1, .slice h.a2 s.w2.length h.k2, .slice h.a3 s.w3.length h.k3, .slice h.ta s.timers.length h.tc, .int .i64 s.clock, .int .i64 s.procs] = sv0
  by_cases a1 : n < 1
  · have HQ : Hid ((0, 0) = q) := Lib.hid (by rw [← HQ0.out, St.place_no (by omega)])
    have HPR := Lib.hid HP2.out
    have HXR := Lib.hid HX2.out
    obtain ⟨⟨r0, r1⟩, y0, y1⟩ := place_cells HPR.out
    go_wp2
    refine bodyPost_ret (v := .agg #[.int .i64 _, .int .i64 _]) (results_cell_row rfl _ _ B _ _ _ _ rfl (place_set HPR.out) Try.underlying52 rfl (by kernel_rfl)) rfl ⟨by rw [← HQ.out] <;> rfl, (HX1.out.trans HXR.out).set2 HBW.out _ _⟩
  by_cases a2 : (s.gs.length : Int) < n
  · have HQ : Hid ((0, 0) = q) := Lib.hid (by rw [← HQ0.out, St.place_no (by omega)])
    have HPR := Lib.hid HP2.out
    have HXR := Lib.hid HX2.out
    obtain ⟨⟨r0, r1⟩, y0, y1⟩ := place_cells HPR.out
    go_wp2
    refine bodyPost_ret (v := .agg #[.int .i64 _, .int .i64 _]) (results_cell_row rfl _ _ B _ _ _ _ rfl (place_set HPR.out) Try.underlying52 rfl (by kernel_rfl)) rfl ⟨by rw [← HQ.out] <;> rfl, (HX1.out.trans HXR.out).set2 HBW.out _ _⟩
  go_wp2_with (refine wpList_load_rowW rfl 32 _ rfl w.heap.size rfl (stL h s) (stV h s) rfl _ (range_row HLD.out) Try.underlying32 rfl (by kernel_rfl) ?_)
  refine (rstmay_any h s _ rfl _ (HK1.out.ext HX2.out) HF.out).mono ?_
  rintro e w3 ⟨rfl, hx3⟩
  have HX3 := Lib.hid (HX2.out.trans hx3)
  have HP3 := Lib.hid (hx3.blk HP2.out)
  clear hx3 q1 HLD
  cases bm : s.may with
  | false =>
    have HQ : Hid ((0, 0) = q) := Lib.hid (by rw [← HQ0.out, St.place_no (fun h => by rw [bm] at h; exact absurd h.2.2 (by simp))])
    have HPR := Lib.hid HP3.out
    have HXR := Lib.hid HX3.out
    obtain ⟨⟨r0, r1⟩, y0, y1⟩ := place_cells HPR.out
    go_wp2
    refine bodyPost_ret (v := .agg #[.int .i64 _, .int .i64 _]) (results_cell_row rfl _ _ B _ _ _ _ rfl (place_set HPR.out) Try.underlying52 rfl (by kernel_rfl)) rfl ⟨by rw [← HQ.out] <;> rfl, (HX1.out.trans HXR.out).set2 HBW.out _ _⟩
  | true =>
    obtain ⟨j, rfl⟩ : ∃ j : Nat, n = (j : Int) + 1 := ⟨(n - 1).toNat, by omega⟩
    obtain ⟨g, hg⟩ : ∃ g, s.gs[j]? = some g := ⟨_, List.getElem?_eq_getElem (by omega)⟩
    have hst := St.may_st bm hg
    have HPO : Hid (s.placeOf ((j : Int) + 1) g = q) := Lib.hid (by rw [← HQ0.out, St.place_yes bm hg])
    obtain ⟨b, o, hA, hb, p0, p1, p2, p3, p4⟩ := gs_get (HK1.out.ext HX3.out).gs hg
    obtain ⟨fn, pc, st, m, sq⟩ := g
    simp only at p0 p1 p2 p3 p4 hst
    have e1 : (j : Int) + 1 - 1 = (j : Int) := by omega
    have e4 : (j : Int) < (s.gs.length : Int) := by omega
    obtain ⟨w4, hw4⟩ : ∃ w4, w3.alloc (.cells #[.int .i64 fn, .int .i64 pc, .int .i64 st, .int .i64 m, .int .i64 sq] 55) = w4 := ⟨_, rfl⟩
    have HW4 := Lib.hid hw4
    have HX4 : Hid (Ext w1 w4) := Lib.hid (by rw [← hw4]; exact HX3.out.alloc _)
    have HG4 : Hid (w4.heap[w3.heap.size]? = some (.cells #[.int .i64 fn, .int .i64 pc, .int .i64 st, .int .i64 m, .int .i64 sq] 55 (0, 0))) := Lib.hid (by rw [← hw4]; exact blk_new w3 _)
    have HP4 : Hid (w4.heap[B]? = some (.cells #[.int .i64 0, .int .i64 0] 52 (0, 0))) := Lib.hid (by rw [← hw4]; exact blk_alloc HP3.out _)
    have q1 := st1 (HX3.out.blk HB1.out)
    have HA := Lib.hid hA
    clear hg hb a1 a2 hw4 hA
    have hA := HA.out
    go_upto_region 4 with fail
    rw [HW4.out]
    clear p0 p1 p2 p3 p4 q1 hA e1 e4
    have HLD := Lib.hid (HX4.out.blk HB1.out)
    have z2 := blk_cell HG4.out 2 _ rfl
    by_cases s1 : st = 1
    · subst s1
      obtain ⟨qa, qb, hqq⟩ : ∃ qa qb, (qa, qb) = q := ⟨q.1, q.2, rfl⟩
      have HQ := Lib.hid hqq
      clear hqq
      have HSC : Hid (Calls Try.prog 82 #[stV h s, .int .i64 ((j : Int) + 1)] w4 fun e w' => e = .returned (.agg #[.int .i64 qa, .int .i64 qb]) ∧ Ext w4 w') := Lib.hid (ratP_any h s ((j : Int) + 1) (qa, qb) (by rw [HQ.out, ← HPO.out]; rfl) w4 (HK1.out.ext HX4.out) HF.out)
      go_wp2_with (refine wpList_load_rowW rfl 32 _ rfl w.heap.size rfl (stL h s) (stV h s) rfl _ (range_row HLD.out) Try.underlying32 rfl (by kernel_rfl) ?_)
      refine HSC.out.mono ?_
      rintro e w5 ⟨rfl, hx5⟩
      have HXR := Lib.hid (HX4.out.trans hx5)
      have HPR := Lib.hid (hx5.blk HP4.out)
      clear z2 hx5
      obtain ⟨⟨r0, r1⟩, y0, y1⟩ := place_cells HPR.out
      go_wp2
      refine bodyPost_ret (v := .agg #[.int .i64 _, .int .i64 _]) (results_cell_row rfl _ _ B _ _ _ _ rfl (place_set HPR.out) Try.underlying52 rfl (by kernel_rfl)) rfl ⟨by rw [← HQ.out] <;> rfl, (HX1.out.trans HXR.out).set2 HBW.out _ _⟩
    have HXR := Lib.hid HX4.out
    have HPR := Lib.hid HP4.out
    have s1' : (st == 1) = false := by simpa using s1
    by_cases s2 : st = 2
    · subst s2
      have HQ : Hid ((4, m) = q) := Lib.hid (by rw [← HPO.out]; rfl)
      have z3 := blk_cell HG4.out 3 _ rfl
      clear s1
      obtain ⟨⟨r0, r1⟩, y0, y1⟩ := place_cells HPR.out
      go_wp2
      refine bodyPost_ret (v := .agg #[.int .i64 _, .int .i64 _]) (results_cell_row rfl _ _ B _ _ _ _ rfl (place_set HPR.out) Try.underlying52 rfl (by kernel_rfl)) rfl ⟨by rw [← HQ.out] <;> rfl, (HX1.out.trans HXR.out).set2 HBW.out _ _⟩
    have s2' : (st == 2) = false := by simpa using s2
    by_cases s4 : st = 4
    · subst s4
      have HQ : Hid ((7, m) = q) := Lib.hid (by rw [← HPO.out]; rfl)
      have z3 := blk_cell HG4.out 3 _ rfl
      clear s1 s2
      obtain ⟨⟨r0, r1⟩, y0, y1⟩ := place_cells HPR.out
      go_wp2
      refine bodyPost_ret (v := .agg #[.int .i64 _, .int .i64 _]) (results_cell_row rfl _ _ B _ _ _ _ rfl (place_set HPR.out) Try.underlying52 rfl (by kernel_rfl)) rfl ⟨by rw [← HQ.out] <;> rfl, (HX1.out.trans HXR.out).set2 HBW.out _ _⟩
    have s4' : (st == 4) = false := by simpa using s4
    by_cases s5 : st = 5
    · subst s5
      have HQ : Hid ((8, 0) = q) := Lib.hid (by rw [← HPO.out]; rfl)
      clear s1 s2 s4
      obtain ⟨⟨r0, r1⟩, y0, y1⟩ := place_cells HPR.out
      go_wp2
      refine bodyPost_ret (v := .agg #[.int .i64 _, .int .i64 _]) (results_cell_row rfl _ _ B _ _ _ _ rfl (place_set HPR.out) Try.underlying52 rfl (by kernel_rfl)) rfl ⟨by rw [← HQ.out] <;> rfl, (HX1.out.trans HXR.out).set2 HBW.out _ _⟩
    obtain rfl : st = 3 := by omega
    have HWT : Hid (waitAt ((j : Int) + 1) s.wts 0 = q) := Lib.hid (by rw [← HPO.out]; rfl)
    clear s1 s2 s4 s5 HLD s1' s2' s4' hst
    go_wp2_with fail
    clear z2
    go_loopw [6] (fun iv wr => ∃ k : Nat, k ≤ 4 ∧ iv = .int .i64 k ∧ waitAt ((j : Int) + 1) (s.wts.drop k) k = q ∧ wr = w4) (fun iv _ => 4 - (intOf iv).toNat)
    case atStart => exact ⟨0, by omega, rfl, HWT.out, rfl⟩
    case round =>
      obtain ⟨k, hk, rfl, hpl, rfl⟩ := hrel
      have HPL := Lib.hid hpl
      clear hpl
      by_cases hlt : k < 4
      · obtain ⟨A0, d0, l, hcell, hI, hl⟩ := HK1.out.wait hlt
        have HL := Lib.hid (wts_few F2.out hl)
        have HCN := Lib.hid (rtimes_any _ l ((j : Int) + 1) wr (hI.ext HX4.out) (by have := HL.out; omega))
        have HTL : Hid (St.times l ((j : Int) + 1) ≤ 100000) := Lib.hid (Nat.le_trans (times_le l _) HL.out)
        have HD : Hid (waitAt ((j : Int) + 1) (s.wts.drop k) k = if ((j : Int) + 1) ∈ l then (5, (k : Int)) else waitAt ((j : Int) + 1) (s.wts.drop (k + 1)) (k + 1)) := Lib.hid (by rw [drop_next hl, waitAt])
        have q9 := blk_cell (HX4.out.blk HB1.out) (9 + k) _ hcell
        clear hcell hI hl
        go_wp2_with fail
        refine HCN.out.mono ?_
        rintro e w' ⟨rfl, rfl⟩
        clear q9
        by_cases hm : ((j : Int) + 1) ∈ l
        · have HQ : Hid ((5, (k : Int)) = q) := Lib.hid (by rw [← HPL.out, HD.out, if_pos hm])
          have hmt : ((0 : Int) < (St.times l ((j : Int) + 1) : Int)) := by have := List.count_pos_iff.2 hm; unfold St.times; omega
          obtain ⟨⟨r0, r1⟩, y0, y1⟩ := place_cells HPR.out
          clear hm
          go_wp2
          refine bodyPost_ret (v := .agg #[.int .i64 _, .int .i64 _]) (results_cell_row rfl _ _ B _ _ _ _ rfl (place_set HPR.out) Try.underlying52 rfl (by kernel_rfl)) rfl ⟨by rw [← HQ.out] <;> rfl, (HX1.out.trans HXR.out).set2 HBW.out _ _⟩
        · have HN : Hid (waitAt ((j : Int) + 1) (s.wts.drop (k + 1)) (k + 1) = q) := Lib.hid (by rw [← HPL.out, HD.out, if_neg hm])
          have hmt : St.times l ((j : Int) + 1) = 0 := by unfold St.times; exact List.count_eq_zero.2 hm
          rw [hmt]
          clear hm hmt
          go_wp2
          go_roundw
          case rel => exact ⟨k + 1, by omega, by go_num, HN.out, trivial⟩
          case measure => simp [intOf]; omega
      · have HQ : Hid ((6, 0) = q) := Lib.hid (by
          obtain rfl : k = 4 := by omega
          rw [← HPL.out]; rfl)
        obtain ⟨⟨r0, r1⟩, y0, y1⟩ := place_cells HPR.out
        go_wp2
        refine bodyPost_ret (v := .agg #[.int .i64 _, .int .i64 _]) (results_cell_row rfl _ _ B _ _ _ _ rfl (place_set HPR.out) Try.underlying52 rfl (by kernel_rfl)) rfl ⟨by rw [← HQ.out] <;> rfl, (HX1.out.trans HXR.out).set2 HBW.out _ _⟩
end Go.Proofs.Ytogcfndhcphpaaa
namespace Go.Proofs.Ytogcfndhcphpaaa
open Go.RowKit
theorem St.stands_times {s : St} {j : Nat} {g : Gr} (h : s.stands j g = true) : St.times s.runs ((j : Int) + 1) = St.want g.st 1 ∧ St.times (s.onM true) ((j : Int) + 1) = St.want g.st 2 ∧ St.times s.waiters ((j : Int) + 1) = St.want g.st 3 ∧ St.times (s.onM false) ((j : Int) + 1) = St.want g.st 4 := by
  unfold St.stands at h
  rw [Bool.and_eq_true, Bool.and_eq_true, decide_eq_true_eq, decide_eq_true_eq] at h
  exact h.1.2
theorem St.may_holdP {s : St} (h : s.may = true) {j : Nat} {p : Pr} (hp : s.ps[j]? = some p) : s.holdP j p = true := by
  have := (St.may_parts h).2.2.1
  unfold St.holds at this
  rw [Bool.and_eq_true] at this
  have := allIx_iff.1 this.1 j p hp
  rwa [Nat.zero_add] at this
end Go.Proofs.Ytogcfndhcphpaaa
namespace Go.Proofs.Ytogcfndhcphpaaa
open Go.RowKit
def BoxW (T : TypeId) (n : Nat) (w0 w : World) (u : GV) : Prop := ∃ g cs, List.length cs = n ∧ u.v = .pointer (some ⟨g, 0, none⟩) ∧ w0.heap.size ≤ g ∧ (u.s ≤ g ∧ g < u.t) ∧ w.heap[g]? = some (.cells cs.toArray T (0, 0))
theorem BoxW.ext {T : TypeId} {n : Nat} {w0 w w' : World} {u : GV} (h : BoxW T n w0 w u) (hx : Ext w w') : BoxW T n w0 w' u := by
  obtain ⟨g, cs, h0, h1, h2, h3, h4⟩ := h
  exact ⟨g, cs, h0, h1, h2, h3, hx.blk h4⟩
theorem BoxW.chg {T : TypeId} {m : Nat} {w0 w w' : World} {u : GV} {n : Nat} {gs : List GV} (h : BoxW T m w0 w u) (hc : ChgIn w0 n gs w w') : BoxW T m w0 w' u := by
  obtain ⟨g, cs, h0, h1, h2, h3, h4⟩ := h
  obtain ⟨ds, k1, k2, _⟩ := hc.part g _ _ h4
  exact ⟨g, ds.toList, by simpa using k2.trans (by simpa using h0), h1, h2, h3, by simpa using k1⟩
theorem BoxW.made {T : TypeId} {w0 w : World} (h : Ext w0 w) (cs : List Value) : BoxW T cs.length w0 (w.alloc (.cells cs.toArray T)) ⟨.pointer (some ⟨w.heap.size, 0, none⟩), w.heap.size, (w.alloc (.cells cs.toArray T)).heap.size⟩ := ⟨_, cs, rfl, rfl, h.size, ⟨Nat.le_refl _, by simp⟩, blk_new w _⟩
def HasW (T : TypeId) (w0 w : World) (u : GV) (cs : List Value) : Prop := ∃ g, u.v = .pointer (some ⟨g, 0, none⟩) ∧ w0.heap.size ≤ g ∧ (u.s ≤ g ∧ g < u.t) ∧ w.heap[g]? = some (.cells cs.toArray T (0, 0))
theorem HasW.ext {T : TypeId} {w0 w w' : World} {u : GV} {cs : List Value} (h : HasW T w0 w u cs) (hx : Ext w w') : HasW T w0 w' u cs := by
  obtain ⟨g, h1, h2, h3, h4⟩ := h
  exact ⟨g, h1, h2, h3, hx.blk h4⟩
theorem HasW.far {T : TypeId} {w0 w w' : World} {u : GV} {n : Nat} {gs : List GV} {cs : List Value} (h : HasW T w0 w u cs) (hc : ChgIn w0 n gs w w') (ha : ∀ g ∈ gs, g.apart u) : HasW T w0 w' u cs := by
  obtain ⟨g, h1, h2, h3, h4⟩ := h
  refine ⟨g, h1, h2, h3, (hc.same g (blk_lt h4) fun x hx => ?_).trans h4⟩
  have := ha x hx
  unfold GV.apart at this
  omega
theorem ChgIn.row {w0 w : World} {g : Nat} {u : GV} {T : TypeId} {cs ds : List Value} (hl : cs.length = ds.length) (h0 : Ext w0 w) (hg : w0.heap.size ≤ g) (hi : u.s ≤ g ∧ g < u.t) (hb : w.heap[g]? = some (.cells cs.toArray T (0, 0))) : ChgIn w0 0 [u] w (w.setCells g 0 ds) := by
  have hu := setCells_upd g ds w 0
  refine ⟨h0, h0.upd hu hg, hu.sz, fun b hb' hgs => hu.block b hb' fun he => ?_, fun b es ty hbc => ?_⟩
  · injection he with he
    subst he
    have := hgs u (by simp)
    omega
  · by_cases hbg : b = g
    · subst hbg
      rw [hb] at hbc
      cases hbc
      exact ⟨_, setCells_at cs ds hl hb, by simp [hl], rfl⟩
    · exact ⟨es, hu.blk hbc hbg, rfl, rfl⟩
theorem HasW.get {T : TypeId} {w0 w : World} {v : Value} {s t g : Nat} {cs : List Value} (h : HasW T w0 w ⟨v, s, t⟩ cs) (hv : v = .pointer (some ⟨g, 0, none⟩)) : w0.heap.size ≤ g ∧ w.heap[g]? = some (.cells cs.toArray T (0, 0)) := by
  obtain ⟨g', h1, h2, _, h4⟩ := h
  rw [hv] at h1
  simp only [Value.pointer.injEq, Option.some.injEq, Addr.mk.injEq, and_true] at h1
  subst h1
  exact ⟨h2, h4⟩
end Go.Proofs.Ytogcfndhcphpaaa
namespace Go.Proofs.Ytogcfndhcphpaaa
open Go.RowKit
theorem flatMap_set_count {f : Pr → List Int} {n : Int} : ∀ {l : List Pr} {i : Nat} {x y : Pr}, l[i]? = some x → ((l.set i y).flatMap f).count n + (f x).count n = (l.flatMap f).count n + (f y).count n
  | [], i, x, y, h => by simp at h
  | a :: l, 0, x, y, h => by
    simp at h; subst h
    rw [List.set_cons_zero, List.flatMap_cons, List.flatMap_cons, List.count_append, List.count_append]
    omega
  | a :: l, i + 1, x, y, h => by
    have ih := flatMap_set_count (f := f) (n := n) (y := y) (show l[i]? = some x by simpa using h)
    rw [List.set_cons_succ, List.flatMap_cons, List.flatMap_cons, List.count_append, List.count_append]
    omega
theorem within_count {l m : List Int} {n : Int} (h : St.within l n = true) (hc : ∀ x, m.count x = l.count x) : St.within m n = true := by
  rw [St.within_iff] at h ⊢
  intro x hx
  refine h x ?_
  have := List.count_pos_iff.2 hx
  rw [hc x] at this
  exact List.count_pos_iff.1 this
theorem getD_set_m {l : List Pr} {i : Nat} {x y : Pr} (hi : l[i]? = some x) (hm : y.m = x.m) (k : Nat) : ((l.set i y).getD k St.nilP).m = (l.getD k St.nilP).m := by
  have hl := (List.getElem?_eq_some_iff.1 hi).1
  rw [List.getD, List.getD]
  by_cases hk : k = i
  · subst hk
    rw [List.getElem?_set_self hl, hi]
    exact hm
  · rw [List.getElem?_set_ne (Ne.symm hk)]
theorem St.may_moved {s : St} (h : s.may = true) {i : Nat} {x y : Pr} (hi : s.ps[i]? = some x) (hm : y.m = x.m) (hq : y.seq = x.seq) (hr : y.ring.may = true) (hn : s.procs ≤ (i : Int) → y.next = 0 ∧ y.ring.n = 0) {gl : List Int} (hc : ∀ n, (St.queueOf y).count n + gl.count n = (St.queueOf x).count n + s.glob.count n) :
    ({ s with ps := s.ps.set i y, glob := gl } : St).may = true := by
  have hl := (List.getElem?_eq_some_iff.1 hi).1
  obtain ⟨h1, h2, h3, h4, h5, h6⟩ := St.may_parts h
  have hcr : ∀ n, ({ s with ps := s.ps.set i y, glob := gl } : St).runs.count n = s.runs.count n := fun n => by
    unfold St.runs
    rw [List.count_append, List.count_append]
    have := flatMap_set_count (f := St.queueOf) (n := n) (y := y) hi
    have := hc n
    simp only
    omega
  unfold St.may
  rw [Bool.and_eq_true, Bool.and_eq_true, Bool.and_eq_true, Bool.and_eq_true, Bool.and_eq_true]
  refine ⟨⟨⟨⟨⟨?_, h2⟩, ?_⟩, h4⟩, ?_⟩, ?_⟩
  · unfold St.whole at h1 ⊢
    simp only [List.length_set]
    exact h1
  · unfold St.holds at h3 ⊢
    rw [Bool.and_eq_true] at h3 ⊢
    refine ⟨allIx_yes fun j p hj => ?_, allIx_yes fun j q hj => ?_⟩
    · by_cases hji : j = i
      · subst hji
        rw [List.getElem?_set_self hl] at hj
        obtain rfl : y = p := Option.some.inj hj
        have hx := St.may_holdP h hi
        unfold St.holdP at hx ⊢
        simp only [Bool.and_eq_true, decide_eq_true_eq, Bool.not_eq_true', Bool.and_eq_false_iff, Bool.or_eq_false_iff, decide_eq_false_iff_not] at hx ⊢
        rw [hm, hq]
        refine ⟨⟨⟨⟨hr, hx.1.1.1.2⟩, hx.1.1.2⟩, hx.1.2⟩, ?_⟩
        by_cases hp : s.procs ≤ (j : Int)
        · right
          obtain ⟨n1, n2⟩ := hn hp
          refine ⟨⟨?_, by rw [n1]; simp⟩, by rw [n2]; omega⟩
          rcases hx.2 with hx2 | hx2
          · exact absurd hp hx2
          · exact hx2.1.1
        · exact .inl hp
      · rw [List.getElem?_set_ne (Ne.symm hji)] at hj
        exact St.may_holdP h hj
    · have hh := allIx_iff.1 h3.2 j q hj
      rw [Nat.zero_add] at hh
      unfold St.holdM at hh ⊢
      simp only [List.length_set, getD_set_m hi hm]
      exact hh
  · unfold St.allIn at h5 ⊢
    simp only [Bool.and_eq_true] at h5 ⊢
    exact ⟨⟨⟨within_count h5.1.1.1 hcr, h5.1.1.2⟩, h5.1.2⟩, h5.2⟩
  · refine allIx_yes fun j g hj => ?_
    have hs := h6 j g hj
    unfold St.stands St.times at hs ⊢
    rw [hcr]
    exact hs
theorem Ri.zero_list : Ri.zero.list = [] := by decide +kernel
theorem Ri.zero_may : Ri.zero.may = true := by decide +kernel
theorem queueOf_dry (x : Pr) : St.queueOf { x with next := 0, ring := Ri.zero } = [] := by
  unfold St.queueOf
  rw [if_neg (by simp)]
  exact Ri.zero_list
theorem St.dried_may {s : St} (h : s.may = true) {i : Nat} {x : Pr} (hi : s.ps[i]? = some x) : (s.dried i x).may = true :=
  St.may_moved h hi (y := { x with next := 0, ring := Ri.zero }) rfl rfl Ri.zero_may (fun _ => ⟨rfl, rfl⟩) (fun n => by rw [queueOf_dry, List.count_append]; simp; omega)
end Go.Proofs.Ytogcfndhcphpaaa
namespace Go.Proofs.Ytogcfndhcphpaaa
open Go.RowKit
namespace St
theorem within_near {l m : List Int} {n a : Int} (h : within l n = true) (ha : 1 ≤ a ∧ a ≤ n) (hc : ∀ x, x ≠ a → m.count x = l.count x) : within m n = true := by
  rw [within_iff] at h ⊢
  intro x hx
  by_cases he : x = a
  · rw [he]; exact ha
  · refine h x (List.count_pos_iff.1 ?_)
    rw [← hc x he]
    exact List.count_pos_iff.2 hx
theorem may_step {s t : St} (h : s.may = true) (hw : t.whole = true) (hg : t.goods = true) (hh : t.holds = true) (hc : t.counts = true) {k : Nat} {y y' : Gr} (hy : s.gs[k]? = some y) (hgs : t.gs = s.gs.set k y')
    (hr : ∀ n : Int, n ≠ (k : Int) + 1 → t.runs.count n = s.runs.count n) (ht : ∀ n : Int, n ≠ (k : Int) + 1 → (t.onM true).count n = (s.onM true).count n) (hwt : ∀ n : Int, n ≠ (k : Int) + 1 → t.waiters.count n = s.waiters.count n) (hf : ∀ n : Int, n ≠ (k : Int) + 1 → (t.onM false).count n = (s.onM false).count n)
    (hst : 1 ≤ y'.st ∧ y'.st ≤ 5) (kr : t.runs.count ((k : Int) + 1) = want y'.st 1) (kt : (t.onM true).count ((k : Int) + 1) = want y'.st 2) (kw : t.waiters.count ((k : Int) + 1) = want y'.st 3) (kf : (t.onM false).count ((k : Int) + 1) = want y'.st 4)
    (hm : if y'.st ≠ 2 ∧ y'.st ≠ 4 then y'.m = 0 else (1 ≤ y'.m ∧ y'.m ≤ t.ms.length) ∧ (t.ms.getD (y'.m - 1).toNat (0, 0)).2 = (k : Int) + 1)
    (hms : ∀ (j : Nat) g, j ≠ k → s.gs[j]? = some g → g.st = 2 ∨ g.st = 4 → g.m ≤ t.ms.length ∧ (t.ms.getD (g.m - 1).toNat (0, 0)).2 = (j : Int) + 1) : t.may = true := by
  obtain ⟨_, _, _, _, h5, h6⟩ := may_parts h
  have hkl := (List.getElem?_eq_some_iff.1 hy).1
  have hlen : t.gs.length = s.gs.length := by rw [hgs, List.length_set]
  have hk1 : (1 : Int) ≤ (k : Int) + 1 ∧ (k : Int) + 1 ≤ (s.gs.length : Int) := by omega
  unfold may
  simp only [Bool.and_eq_true]
  refine ⟨⟨⟨⟨⟨hw, hg⟩, hh⟩, hc⟩, ?_⟩, allIx_yes fun j g hj => ?_⟩
  · unfold allIn at h5 ⊢
    simp only [Bool.and_eq_true] at h5 ⊢
    rw [hlen]
    exact ⟨⟨⟨within_near h5.1.1.1 hk1 hr, within_near h5.1.1.2 hk1 hwt⟩, within_near h5.1.2 hk1 ht⟩, within_near h5.2 hk1 hf⟩
  · rw [hgs] at hj
    by_cases hjk : j = k
    · subst hjk
      rw [List.getElem?_set_self hkl] at hj
      obtain rfl := Option.some.inj hj
      unfold stands times
      rw [kr, kt, kw, kf, decide_eq_true hst, decide_eq_true ⟨rfl, rfl, rfl, rfl⟩, Bool.true_and, Bool.true_and]
      split
      · rename_i h24
        rw [if_pos h24] at hm
        exact decide_eq_true hm
      · rename_i h24
        rw [if_neg h24] at hm
        rw [decide_eq_true hm.1, decide_eq_true hm.2]
        rfl
    · rw [List.getElem?_set_ne (Ne.symm hjk)] at hj
      have hs := h6 j g hj
      have hjn : (j : Int) + 1 ≠ (k : Int) + 1 := by omega
      unfold stands times at hs ⊢
      rw [hr _ hjn, ht _ hjn, hwt _ hjn, hf _ hjn]
      simp only [Bool.and_eq_true] at hs ⊢
      refine ⟨hs.1, ?_⟩
      have h2 := hs.2
      by_cases h24 : g.st ≠ 2 ∧ g.st ≠ 4
      · rw [if_pos h24] at h2 ⊢
        exact h2
      · rw [if_neg h24] at h2 ⊢
        simp only [Bool.and_eq_true, decide_eq_true_eq] at h2 ⊢
        have := hms j g hjk hj (by omega)
        exact ⟨⟨h2.1.1, this.1⟩, this.2⟩
theorem goods_set {s t : St} (h : s.goods = true) (hp : t.prog = s.prog) {k : Nat} {y y' : Gr} (hy : s.gs[k]? = some y) (hgs : t.gs = s.gs.set k y') (h1 : y'.func = y.func) (h2 : y'.pc = y.pc) (h3 : low y'.seq = true) : t.goods = true := by
  unfold goods at h ⊢
  rw [List.all_eq_true] at h ⊢
  intro g hg
  rw [hgs] at hg
  rcases List.mem_or_eq_of_mem_set hg with hg | rfl
  · have := h g hg
    unfold good at this ⊢
    rw [hp]
    exact this
  · have := h y (List.mem_of_getElem? hy)
    unfold good at this ⊢
    rw [hp, h1, h2, h3]
    simp only [Bool.and_eq_true] at this ⊢
    exact ⟨⟨this.1.1, trivial⟩, this.2⟩
theorem holds_set {s t : St} (h : s.holds = true) (hp : t.procs = s.procs) {i : Nat} {x x' : Pr} (hx : s.ps[i]? = some x) (hps : t.ps = s.ps.set i x') (hml : t.ms.length = s.ms.length) (hm1 : ∀ j : Nat, (t.ms.getD j (0, 0)).1 = (s.ms.getD j (0, 0)).1) (h1 : x'.m = x.m) (h2 : x'.seq = x.seq) (h3 : x'.ring.may = true) (h4 : s.procs ≤ (i : Int) → x'.next = 0 ∧ x'.ring.n ≤ 0) : t.holds = true := by
  have hl := (List.getElem?_eq_some_iff.1 hx).1
  unfold holds at h ⊢
  rw [Bool.and_eq_true] at h ⊢
  refine ⟨allIx_yes fun j p hj => ?_, allIx_yes fun j q hj => ?_⟩
  · rw [hps] at hj
    by_cases hji : j = i
    · subst hji
      rw [List.getElem?_set_self hl] at hj
      obtain rfl : x' = p := Option.some.inj hj
      have hx := allIx_iff.1 h.1 j x hx
      rw [Nat.zero_add] at hx
      unfold holdP at hx ⊢
      rw [hp, hml, hm1, h1, h2, h3]
      simp only [Bool.and_eq_true, decide_eq_true_eq, Bool.not_eq_true', Bool.and_eq_false_iff, Bool.or_eq_false_iff, decide_eq_false_iff_not] at hx ⊢
      refine ⟨⟨⟨⟨trivial, hx.1.1.1.2⟩, hx.1.1.2⟩, hx.1.2⟩, ?_⟩
      by_cases hpi : s.procs ≤ (j : Int)
      · right
        obtain ⟨n1, n2⟩ := h4 hpi
        refine ⟨⟨?_, by rw [n1]; simp⟩, by omega⟩
        rcases hx.2 with hx2 | hx2
        · exact absurd hpi hx2
        · exact hx2.1.1
      · exact .inl hpi
    · rw [List.getElem?_set_ne (Ne.symm hji)] at hj
      have hx := allIx_iff.1 h.1 j p hj
      rw [Nat.zero_add] at hx
      unfold holdP at hx ⊢
      rw [hp, hml, hm1]
      exact hx
  · have hql : j < s.ms.length := by rw [← hml]; exact (List.getElem?_eq_some_iff.1 hj).1
    obtain ⟨q0, hq0⟩ : ∃ q0, s.ms[j]? = some q0 := ⟨_, List.getElem?_eq_getElem hql⟩
    have hh := allIx_iff.1 h.2 j q0 hq0
    rw [Nat.zero_add] at hh
    have e : q.1 = q0.1 := by
      have := hm1 j
      rw [List.getD, List.getD, hj, hq0] at this
      exact this
    unfold holdM at hh ⊢
    rw [e, hps]
    simp only [List.length_set, getD_set_m hx h1]
    exact hh
theorem okCnt_le {c : Int} {l m : List Int} (h : okCnt c l = true) (hl : m.length ≤ l.length) : okCnt c m = true := by
  unfold okCnt at h ⊢
  simp only [Bool.and_eq_true, Bool.not_eq_true', Bool.and_eq_false_iff, decide_eq_false_iff_not] at h ⊢
  refine ⟨h.1, ?_⟩
  rcases h.2 with h2 | h2
  · exact .inl h2
  · exact .inr (by omega)
theorem next_pos {s : St} (h : s.may = true) {i : Nat} {x : Pr} (hx : s.ps[i]? = some x) (h0 : x.next ≠ 0) : 1 ≤ x.next := by
  obtain ⟨_, _, _, _, h5, _⟩ := may_parts h
  unfold allIn at h5
  simp only [Bool.and_eq_true, within_iff] at h5
  refine (h5.1.1.1 x.next ?_).1
  unfold runs queueOf
  refine List.mem_append_left _ (List.mem_flatMap.2 ⟨x, List.mem_of_getElem? hx, ?_⟩)
  rw [if_pos h0]
  simp
theorem may_ring {s : St} (h : s.may = true) {i : Nat} {x : Pr} (hx : s.ps[i]? = some x) : x.ring.may = true := by
  have := may_holdP h hx
  unfold holdP at this
  simp only [Bool.and_eq_true] at this
  exact this.1.1.1.1
theorem wake_spec {s : St} (hb : ∀ p ∈ s.ps, p.ring.buf.length = 8) {i k : Nat} {x : Pr} {y : Gr} (h : s.may = true) (hp : (i : Int) + 1 ≤ s.procs) (hx : s.ps[i]? = some x) (hy : s.gs[k]? = some y) (h3 : y.st = 3) :
    ∃ (r : Ri) (gl : List Int), s.wake ((i : Int) + 1) ((k : Int) + 1) = ({ s.out ((k : Int) + 1) with gs := s.gs.set k { y with st := 1, m := 0, seq := y.seq + 1 }, ps := s.ps.set i { x with next := (k : Int) + 1, ring := r }, glob := gl }, 0) ∧ r.may = true ∧ r.buf.length = 8 ∧ (∀ n, r.list.count n + gl.count n = (queueOf x).count n + s.glob.count n) ∧ (∀ n ∈ s.glob, n ∈ gl) ∧ ∀ n ∈ r.list, n ∈ x.ring.list ∨ n = x.next := by
  have hil := (List.getElem?_eq_some_iff.1 hx).1
  have hrm := may_ring h hx
  have hb8 := hb x (List.mem_of_getElem? hx)
  rw [wake_yes h ⟨by omega, hp⟩ hx hy h3]
  by_cases h0 : x.next = 0
  · refine ⟨x.ring, s.glob, ?_, hrm, hb8, fun n => ?_, fun n hn => hn, fun n hn => .inl hn⟩
    · rw [h0, tail_no (by omega)]
      rfl
    · unfold queueOf
      rw [if_neg (by simp [h0]), List.nil_append]
  · have h1 := next_pos h hx h0
    obtain ⟨r, gl, e, m1, m2, m3, m4, m5⟩ := tail_spec { s.out ((k : Int) + 1) with gs := s.gs.set k { y with st := 1, m := 0, seq := y.seq + 1 }, ps := s.ps.set i { x with next := (k : Int) + 1 } } (i := i) (x := { x with next := (k : Int) + 1 }) (List.getElem?_set_self hil) hb8 hrm h1
    refine ⟨r, gl, ?_, m1, m2, fun n => ?_, m4, m5⟩
    · rw [e]
      simp only [List.set_set]
    · have := m3 n
      simp only at this
      unfold queueOf
      rw [if_pos h0, List.count_append]
      simp only [out] at this
      omega
theorem count_filter_ne (l : List Int) (a n : Int) (h : n ≠ a) : (l.filter (· != a)).count n = l.count n := by
  rw [List.count_filter (by simpa using h)]
theorem count_filter_self (l : List Int) (a : Int) : (l.filter (· != a)).count a = 0 := List.count_eq_zero.2 (by simp)
theorem count_tfilter_ne (a n : Int) (h : n ≠ a) : ∀ l : List (Int × Int), ((l.filter (·.2 != a)).map Prod.snd).count n = (l.map Prod.snd).count n
  | [] => rfl
  | p :: l => by
    have ih := count_tfilter_ne a n h l
    rw [List.filter_cons]
    by_cases hp : p.2 = a
    · rw [if_neg (by simp [hp]), ih, List.map_cons, List.count_cons_of_ne (by rw [hp]; exact Ne.symm h)]
    · rw [if_pos (by simpa using hp), List.map_cons, List.map_cons, List.count_cons, List.count_cons, ih]
theorem count_tfilter_self (a : Int) (l : List (Int × Int)) : ((l.filter (·.2 != a)).map Prod.snd).count a = 0 := List.count_eq_zero.2 (by
  intro h
  obtain ⟨p, hp, he⟩ := List.mem_map.1 h
  have := (List.mem_filter.1 hp).2
  rw [he] at this
  simp at this)
theorem out_waiters_ne (s : St) (a n : Int) (h : n ≠ a) : (s.out a).waiters.count n = s.waiters.count n := by
  unfold waiters waits out
  simp only [List.count_append, count_filter_ne _ a n h, count_tfilter_ne a n h]
theorem out_waiters_self (s : St) (a : Int) : (s.out a).waiters.count a = 0 := by
  unfold waiters waits out
  simp only [List.count_append, count_filter_self, count_tfilter_self]
theorem out_counts {s : St} (h : s.counts = true) (a : Int) : (s.out a).counts = true := by
  unfold counts at h ⊢
  simp only [Bool.and_eq_true, out] at h ⊢
  exact ⟨⟨⟨okCnt_le h.1.1.1 (List.length_filter_le _ _), okCnt_le h.1.1.2 (List.length_filter_le _ _)⟩, okCnt_le h.1.2 (List.length_filter_le _ _)⟩, okCnt_le h.2 (List.length_filter_le _ _)⟩
theorem low_succ {n : Int} (h : low n = true) (hs : n < 2305843009213693951) : low (n + 1) = true := by
  unfold low at h ⊢
  rw [decide_eq_true_eq] at h ⊢
  omega
theorem good_seq {s : St} (h : s.may = true) {k : Nat} {y : Gr} (hy : s.gs[k]? = some y) : low y.seq = true := by
  obtain ⟨_, h2, _⟩ := may_parts h
  unfold goods at h2
  have := List.all_eq_true.1 h2 y (List.mem_of_getElem? hy)
  unfold good at this
  simp only [Bool.and_eq_true] at this
  exact this.1.2
theorem wake_may {s : St} (h : s.may = true) {i k : Nat} {x : Pr} {y : Gr} (hp : (i : Int) + 1 ≤ s.procs) (hx : s.ps[i]? = some x) (hy : s.gs[k]? = some y) (h3 : y.st = 3) (hq : y.seq < 2305843009213693951) {r : Ri} {gl : List Int} (hr : r.may = true) (hc : ∀ n, r.list.count n + gl.count n = (queueOf x).count n + s.glob.count n) :
    ({ s.out ((k : Int) + 1) with gs := s.gs.set k { y with st := 1, m := 0, seq := y.seq + 1 }, ps := s.ps.set i { x with next := (k : Int) + 1, ring := r }, glob := gl } : St).may = true := by
  obtain ⟨h1, h2, h4, h5, h6, h7⟩ := may_parts h
  have hs := stands_times (h7 k y hy)
  rw [h3] at hs
  unfold times want at hs
  simp only [Int.reduceEq, if_false, if_true] at hs
  have hcr : ∀ n, ({ s.out ((k : Int) + 1) with gs := s.gs.set k { y with st := 1, m := 0, seq := y.seq + 1 }, ps := s.ps.set i { x with next := (k : Int) + 1, ring := r }, glob := gl } : St).runs.count n = s.runs.count n + [(k : Int) + 1].count n := fun n => by
    unfold runs
    rw [List.count_append, List.count_append]
    have h1 := flatMap_set_count (f := queueOf) (n := n) (y := { x with next := (k : Int) + 1, ring := r }) hx
    have h2 := hc n
    have h3 : (queueOf { x with next := (k : Int) + 1, ring := r }).count n = [(k : Int) + 1].count n + r.list.count n := by
      unfold queueOf
      rw [if_pos (by simp; omega), List.count_append]
    simp only
    omega
  refine may_step h (k := k) (y := y) (y' := { y with st := 1, m := 0, seq := y.seq + 1 }) ?_ (goods_set (s := s) h2 rfl hy rfl rfl rfl (low_succ (good_seq h hy) hq)) (holds_set h4 rfl hx rfl rfl (fun _ => rfl) rfl rfl hr (fun hh => by omega)) ?_ hy rfl (fun n hn => ?_) (fun n _ => rfl) (fun n hn => out_waiters_ne s _ n hn) (fun n _ => rfl) (by simp) ?_ hs.2.1 (out_waiters_self s _) hs.2.2.2 ?_ (fun j g hj hg h24 => ?_)
  · unfold whole at h1 ⊢
    simp only [List.length_set, out, Bool.and_eq_true, decide_eq_true_eq] at h1 ⊢
    exact ⟨h1.1, decide_eq_true (h1.2.sub List.filter_sublist)⟩
  · have := out_counts h5 ((k : Int) + 1)
    exact this
  · rw [hcr n, List.count_eq_zero.2 (show n ∉ [(k : Int) + 1] by simpa using hn), Nat.add_zero]
  · rw [hcr, hs.1, List.count_singleton_self]
    rfl
  · simp
  · have hst := h7 j g hg
    unfold stands at hst
    simp only [Bool.and_eq_true] at hst
    have h8 := hst.2
    rw [if_neg (by omega)] at h8
    simp only [Bool.and_eq_true, decide_eq_true_eq] at h8
    exact ⟨h8.1.2, h8.2⟩
end St
end Go.Proofs.Ytogcfndhcphpaaa
namespace Go.Proofs.Ytogcfndhcphpaaa
open Go.RowKit
namespace St
theorem placeAt_spec (n : Int) (hn : n ≠ 0) : ∀ (ps : List Pr) (i : Nat), (placeAt n ps i = (3, 0) ∧ ∀ p ∈ ps, n ∉ queueOf p) ∨ ∃ (j : Nat) (p : Pr), ps[j]? = some p ∧ ((p.next = n ∧ placeAt n ps i = (1, ((i + j : Nat) : Int) + 1)) ∨ (p.next ≠ n ∧ n ∈ p.ring.list ∧ placeAt n ps i = (2, ((i + j : Nat) : Int) + 1)))
  | [], i => .inl ⟨rfl, by simp⟩
  | p :: ps, i => by
    by_cases h1 : p.next = n
    · exact .inr ⟨0, p, rfl, .inl ⟨h1, by unfold placeAt; rw [if_pos h1]; rfl⟩⟩
    · by_cases h2 : n ∈ p.ring.list
      · exact .inr ⟨0, p, rfl, .inr ⟨h1, h2, by unfold placeAt; rw [if_neg h1, if_pos h2]; rfl⟩⟩
      · have e : placeAt n (p :: ps) i = placeAt n ps (i + 1) := by
          conv => lhs; unfold placeAt
          rw [if_neg h1, if_neg h2]
        rcases placeAt_spec n hn ps (i + 1) with ⟨h3, h4⟩ | ⟨j, q, hj, h⟩
        · refine .inl ⟨by rw [e]; exact h3, fun q hq => ?_⟩
          rcases List.mem_cons.1 hq with rfl | hq
          · unfold queueOf
            intro hm
            rcases List.mem_append.1 hm with hm | hm
            · split at hm
              · exact h1 (List.mem_singleton.1 hm).symm
              · cases hm
            · exact h2 hm
          · exact h4 q hq
        · refine .inr ⟨j + 1, q, by simpa using hj, ?_⟩
          rw [e, show i + (j + 1) = i + 1 + j by omega]
          exact h
theorem mem_queue_next {p : Pr} (h : p.next ≠ 0) : p.next ∈ queueOf p := by unfold queueOf; rw [if_pos h]; simp
theorem mem_queue_ring {p : Pr} {n : Int} (h : n ∈ p.ring.list) : n ∈ queueOf p := by unfold queueOf; exact List.mem_append_right _ h
theorem flat_uniq {n : Int} : ∀ {ps : List Pr}, (ps.flatMap queueOf).count n ≤ 1 → ∀ {j j' : Nat} {p p' : Pr}, ps[j]? = some p → ps[j']? = some p' → n ∈ queueOf p → n ∈ queueOf p' → j = j'
  | [], _, j, j', p, p', h, _, _, _ => by simp at h
  | q :: ps, h, j, j', p, p', hj, hj', hm, hm' => by
    rw [List.flatMap_cons, List.count_append] at h
    have key : ∀ (k : Nat) (r : Pr), ps[k]? = some r → n ∈ queueOf r → n ∈ queueOf q → False := fun k r hk hr hq => by
      have a1 := List.count_pos_iff.2 hq
      have a2 : n ∈ ps.flatMap queueOf := List.mem_flatMap.2 ⟨r, List.mem_of_getElem? hk, hr⟩
      have a3 := List.count_pos_iff.2 a2
      omega
    match j, j', hj, hj' with
    | 0, 0, _, _ => rfl
    | 0, k + 1, h0, h1 =>
      simp at h0; subst h0
      exact (key k p' (by simpa using h1) hm' hm).elim
    | k + 1, 0, h1, h0 =>
      simp at h0; subst h0
      exact (key k p (by simpa using h1) hm hm').elim
    | k + 1, k' + 1, h1, h2 =>
      have := flat_uniq (ps := ps) (by omega) (j := k) (j' := k') (by simpa using h1) (by simpa using h2) hm hm'
      omega
def okMove (a b : Int × Int) : Bool := decide (a = b) || (decide (a.1 = 2) && decide (b.1 = 3)) || (decide (a.1 = 1) && (decide (b.1 = 2) || decide (b.1 = 3)))
theorem okMove_refl (a : Int × Int) : okMove a a = true := by simp [okMove]
theorem place_move {ps : List Pr} {gl gl' : List Int} {i : Nat} {x x' : Pr} {n : Int} (hn : n ≠ 0) (hx : ps[i]? = some x) (h1 : (ps.flatMap queueOf ++ gl).count n = 1) (h2 : ((ps.set i x').flatMap queueOf ++ gl').count n = 1) (hg : n ∈ gl → n ∈ gl') (hnx : x'.next = n → x.next = n) (hrg : n ∈ x'.ring.list → n ∈ x.ring.list ∨ n = x.next) :
    okMove (placeAt n ps 0) (placeAt n (ps.set i x') 0) = true := by
  rw [List.count_append] at h1 h2
  have hil := (List.getElem?_eq_some_iff.1 hx).1
  have back : ∀ (j : Nat) (q' : Pr), (ps.set i x')[j]? = some q' → ∃ q, ps[j]? = some q ∧ (q'.next = n → q.next = n) ∧ (n ∈ q'.ring.list → n ∈ q.ring.list ∨ n = q.next) := fun j q' hj => by
    by_cases hji : j = i
    · subst hji
      rw [List.getElem?_set_self hil] at hj
      obtain rfl := Option.some.inj hj
      exact ⟨x, hx, hnx, hrg⟩
    · rw [List.getElem?_set_ne (Ne.symm hji)] at hj
      exact ⟨q', hj, id, .inl⟩
  have inq : ∀ {q : Pr}, q.next = n → n ∈ queueOf q := fun h => by subst h; exact mem_queue_next hn
  rcases placeAt_spec n hn ps 0 with ⟨e1, no⟩ | ⟨j, p, hj, ⟨p1, e1⟩ | ⟨p1, p2, e1⟩⟩
  · have hz : (ps.flatMap queueOf).count n = 0 := List.count_eq_zero.2 fun hm => by
      obtain ⟨q, hq, hm⟩ := List.mem_flatMap.1 hm
      exact no q hq hm
    have hgl : n ∈ gl' := hg (List.count_pos_iff.1 (by omega))
    have hgc := List.count_pos_iff.2 hgl
    rcases placeAt_spec n hn (ps.set i x') 0 with ⟨e2, _⟩ | ⟨j', q', hj', h⟩
    · rw [e1, e2]; exact okMove_refl _
    · have : n ∈ (ps.set i x').flatMap queueOf := List.mem_flatMap.2 ⟨q', List.mem_of_getElem? hj', by
        rcases h with ⟨h, _⟩ | ⟨_, h, _⟩
        · exact inq h
        · exact mem_queue_ring h⟩
      have := List.count_pos_iff.2 this
      omega
  · rcases placeAt_spec n hn (ps.set i x') 0 with ⟨e2, _⟩ | ⟨j', q', hj', ⟨q1, e2⟩ | ⟨q1, q2, e2⟩⟩
    · rw [e1, e2]; simp [okMove]
    · obtain ⟨q, hq, b1, _⟩ := back j' q' hj'
      obtain rfl := flat_uniq (by omega) hj hq (inq p1) (inq (b1 q1))
      rw [e1, e2]; exact okMove_refl _
    · rw [e1, e2]; simp [okMove]
  · rcases placeAt_spec n hn (ps.set i x') 0 with ⟨e2, _⟩ | ⟨j', q', hj', ⟨q1, e2⟩ | ⟨q1, q2, e2⟩⟩
    · rw [e1, e2]; simp [okMove]
    · obtain ⟨q, hq, b1, _⟩ := back j' q' hj'
      obtain rfl := flat_uniq (by omega) hj hq (mem_queue_ring p2) (inq (b1 q1))
      rw [hj] at hq
      obtain rfl := Option.some.inj hq
      exact absurd (b1 q1) p1
    · obtain ⟨q, hq, _, b2⟩ := back j' q' hj'
      have hmq : n ∈ queueOf q := by
        rcases b2 q2 with h | h
        · exact mem_queue_ring h
        · exact inq h.symm
      obtain rfl := flat_uniq (by omega) hj hq (mem_queue_ring p2) hmq
      rw [e1, e2]; exact okMove_refl _
theorem waitAt_congr {n : Int} : ∀ {l m : List (List Int)} (i : Nat), l.length = m.length → (∀ (j : Nat) a b, l[j]? = some a → m[j]? = some b → (n ∈ a ↔ n ∈ b)) → waitAt n l i = waitAt n m i
  | [], [], i, _, _ => rfl
  | a :: l, b :: m, i, hl, h => by
    have h0 := h 0 a b rfl rfl
    have ih := waitAt_congr (l := l) (m := m) (i + 1) (by simpa using hl) fun j a' b' ha hb => h (j + 1) a' b' (by simpa using ha) (by simpa using hb)
    unfold waitAt
    by_cases hm : n ∈ a
    · rw [if_pos hm, if_pos (h0.1 hm)]
    · rw [if_neg hm, if_neg fun hb => hm (h0.2 hb), ih]
  | [], b :: m, i, hl, _ => by simp at hl
  | a :: l, [], i, hl, _ => by simp at hl
def Keeps (s t : St) : Prop := t.may = true ∧ t.gs.length = s.gs.length ∧ ∀ (j : Nat) g g', s.gs[j]? = some g → t.gs[j]? = some g' → g.st = g'.st → okMove (s.place ((j : Int) + 1)) (t.place ((j : Int) + 1)) = true
theorem runs_one {s : St} (h : s.may = true) {j : Nat} {g : Gr} (hj : s.gs[j]? = some g) (h1 : g.st = 1) : (s.ps.flatMap queueOf ++ s.glob).count ((j : Int) + 1) = 1 := by
  have := (stands_times (may_stands h hj)).1
  rw [h1] at this
  exact this
theorem keeps_set {s t : St} (h : s.may = true) (ht : t.may = true) (hlen : t.gs.length = s.gs.length) {i : Nat} {x x' : Pr} (hx : s.ps[i]? = some x) (hps : t.ps = s.ps.set i x')
    (hg : ∀ (j : Nat) g g', s.gs[j]? = some g → t.gs[j]? = some g' → g.st = g'.st → g'.m = g.m ∧ ((j : Int) + 1 ∈ s.glob → (j : Int) + 1 ∈ t.glob) ∧ (x'.next = (j : Int) + 1 → x.next = (j : Int) + 1) ∧ ((j : Int) + 1 ∈ x'.ring.list → (j : Int) + 1 ∈ x.ring.list ∨ (j : Int) + 1 = x.next) ∧ waitAt ((j : Int) + 1) s.wts 0 = waitAt ((j : Int) + 1) t.wts 0) : Keeps s t := by
  refine ⟨ht, hlen, fun j g g' hj hj' hst => ?_⟩
  obtain ⟨h1, h2, h3, h4, h5⟩ := hg j g g' hj hj' hst
  rw [place_yes h hj, place_yes ht hj']
  unfold placeOf
  rw [← hst]
  by_cases s1 : g.st = 1
  · rw [if_pos s1, if_pos s1, hps]
    exact place_move (by omega) hx (runs_one h hj s1) (by rw [← hps]; exact runs_one ht hj' (by rw [← hst]; exact s1)) h2 h3 h4
  · rw [if_neg s1, if_neg s1, h1, h5]
    exact okMove_refl _
theorem wake_keeps {s : St} (hb : ∀ p ∈ s.ps, p.ring.buf.length = 8) (hq : ∀ g ∈ s.gs, g.seq < 2305843009213693951) (p n : Int) : s.wake p n = (St.nil, 1) ∨ ((s.wake p n).2 = 0 ∧ Keeps s (s.wake p n).1) := by
  by_cases h : s.may = true ∧ (1 ≤ p ∧ p ≤ s.procs) ∧ (1 ≤ n ∧ n ≤ s.gs.length) ∧ (s.gAt n).st = 3
  · right
    obtain ⟨hm, hp, hn, h3⟩ := h
    have hps := may_procs hm
    obtain ⟨i, rfl⟩ : ∃ i : Nat, p = (i : Int) + 1 := ⟨(p - 1).toNat, by omega⟩
    obtain ⟨k, rfl⟩ : ∃ k : Nat, n = (k : Int) + 1 := ⟨(n - 1).toNat, by omega⟩
    obtain ⟨x, hx⟩ : ∃ x, s.ps[i]? = some x := ⟨_, List.getElem?_eq_getElem (by omega)⟩
    obtain ⟨y, hy⟩ : ∃ y, s.gs[k]? = some y := ⟨_, List.getElem?_eq_getElem (by omega)⟩
    rw [gAt_of hy] at h3
    have hkl := (List.getElem?_eq_some_iff.1 hy).1
    obtain ⟨r, gl, e, m1, m2, m3, m4, m5⟩ := wake_spec hb hm hp.2 hx hy h3
    rw [e]
    have hmay := wake_may hm hp.2 hx hy h3 (hq y (List.mem_of_getElem? hy)) m1 m3
    refine ⟨rfl, keeps_set hm hmay (by simp only [List.length_set]) hx rfl fun j g g' hj hj' hst => ?_⟩
    have hjk : j ≠ k := fun hjk => by
      subst hjk
      simp only at hj'
      rw [List.getElem?_set_self hkl] at hj'
      rw [hy] at hj
      obtain rfl := Option.some.inj hj
      obtain rfl := Option.some.inj hj'
      simp only at hst
      omega
    simp only at hj'
    rw [List.getElem?_set_ne (Ne.symm hjk), hj] at hj'
    obtain rfl := Option.some.inj hj'
    refine ⟨rfl, m4 _, fun he => ?_, m5 _, waitAt_congr 0 rfl fun a u v hu hv => ?_⟩
    · simp only at he
      omega
    · have hne : ((j : Int) + 1 != (k : Int) + 1) = true := by simp; omega
      unfold wts out at hv
      unfold wts at hu
      simp only at hv
      match a, hu, hv with
      | 0, hu, hv | 1, hu, hv | 2, hu, hv | 3, hu, hv =>
        simp at hu hv; subst hu hv
        simp [List.mem_filter]
        intro; omega
      | a + 4, hu, hv => simp at hu
  · exact .inl (wake_no h)
theorem wantM {s : St} (h : s.may = true) {j k : Nat} {mp : Int} {y : Gr} (hj : s.ms[j]? = some (mp, (k : Int) + 1)) (hp : mp ≠ 0) (hy : s.gs[k]? = some y) : y.st = 2 ∧ y.m = (j : Int) + 1 := by
  have hs := may_stands h hy
  have ht := stands_times hs
  have hpos := onM_pos hj (show (k : Int) + 1 ≠ 0 by omega)
  rw [show ((mp, (k : Int) + 1).1 != 0) = true by simpa using hp] at hpos
  have h2 : y.st = 2 := by
    have := ht.2.1
    simp only at hpos
    unfold want at this
    split at this
    · assumption
    · omega
  refine ⟨h2, ?_⟩
  unfold stands at hs
  simp only [Bool.and_eq_true] at hs
  have h8 := hs.2
  rw [if_neg (by omega)] at h8
  simp only [Bool.and_eq_true, decide_eq_true_eq] at h8
  obtain ⟨j', e⟩ : ∃ j' : Nat, y.m = (j' : Int) + 1 := ⟨(y.m - 1).toNat, by omega⟩
  rw [e] at h8 ⊢
  rw [show ((j' : Int) + 1 - 1).toNat = j' by omega] at h8
  have hj'l : j' < s.ms.length := by omega
  have ho := ht.2.1
  rw [h2] at ho
  by_cases hjj : j' = j
  · rw [hjj]
  · exfalso
    obtain ⟨q, hq⟩ : ∃ q, s.ms[j']? = some q := ⟨_, List.getElem?_eq_getElem hj'l⟩
    have hq2 : q.2 = (k : Int) + 1 := by
      have := h8.2
      rw [List.getD, hq] at this
      exact this
    have hq1 : (q.1 != 0) = true := by
      cases hb : (q.1 != 0) with
      | true => rfl
      | false =>
        have := onM_pos hq (by rw [hq2]; omega)
        rw [hb, hq2] at this
        have h0 := ht.2.2.2
        rw [h2] at h0
        rw [h0] at this
        exact absurd this (by decide)
    have two : ∀ {ms : List (Int × Int)} {a b : Nat} {u v : Int × Int}, a ≠ b → ms[a]? = some u → ms[b]? = some v → u.2 = (k : Int) + 1 → v.2 = (k : Int) + 1 → (u.1 != 0) = true → (v.1 != 0) = true → 2 ≤ ((ms.filter fun m => m.2 != 0 && ((m.1 != 0) == true)).map Prod.snd).count ((k : Int) + 1) := by
      intro ms
      induction ms with
      | nil => intro a b u v _ hu; simp at hu
      | cons m ms ih =>
        intro a b u v hab hu hv u2 v2 u1 v1
        have one : ∀ {c : Nat} {z : Int × Int}, ms[c]? = some z → z.2 = (k : Int) + 1 → (z.1 != 0) = true → 1 ≤ ((ms.filter fun m => m.2 != 0 && ((m.1 != 0) == true)).map Prod.snd).count ((k : Int) + 1) := fun {c z} hz z2 z1 => by
          refine List.count_pos_iff.2 (List.mem_map.2 ⟨z, List.mem_filter.2 ⟨List.mem_of_getElem? hz, ?_⟩, z2⟩)
          rw [z1, z2]
          simp
          omega
        have hd : ∀ {z : Int × Int}, z = m → z.2 = (k : Int) + 1 → (z.1 != 0) = true → (((m :: ms).filter fun m => m.2 != 0 && ((m.1 != 0) == true)).map Prod.snd).count ((k : Int) + 1) = ((ms.filter fun m => m.2 != 0 && ((m.1 != 0) == true)).map Prod.snd).count ((k : Int) + 1) + 1 := fun {z} hz z2 z1 => by
          subst hz
          rw [List.filter_cons_of_pos (by rw [z1, z2]; simp; omega), List.map_cons, z2, List.count_cons_self]
        match a, b, hu, hv with
        | 0, 0, _, _ => exact absurd rfl hab
        | 0, b + 1, hu, hv =>
          simp at hu
          rw [hd hu.symm u2 u1]
          have := one (c := b) (by simpa using hv) v2 v1
          omega
        | a + 1, 0, hu, hv =>
          simp at hv
          rw [hd hv.symm v2 v1]
          have := one (c := a) (by simpa using hu) u2 u1
          omega
        | a + 1, b + 1, hu, hv =>
          have := ih (a := a) (b := b) (by omega) (by simpa using hu) (by simpa using hv) u2 v2 u1 v1
          rw [List.filter_cons]
          split
          · rw [List.map_cons, List.count_cons]; omega
          · exact this
    have := two hjj hq hj hq2 rfl hq1 (by simpa using hp)
    unfold times onM at ho
    rw [ho] at this
    exact absurd this (by decide)
theorem onM_set {k : Nat} {mp : Int} (hp : mp ≠ 0) : ∀ {ms : List (Int × Int)} {j : Nat}, ms[j]? = some (mp, (k : Int) + 1) →
    (∀ n : Int, (((ms.set j (mp, 0)).filter fun m => m.2 != 0 && ((m.1 != 0) == true)).map Prod.snd).count n + [(k : Int) + 1].count n = ((ms.filter fun m => m.2 != 0 && ((m.1 != 0) == true)).map Prod.snd).count n) ∧
    ((ms.set j (mp, 0)).filter fun m => m.2 != 0 && ((m.1 != 0) == false)) = ms.filter fun m => m.2 != 0 && ((m.1 != 0) == false)
  | [], j, h => by simp at h
  | m :: ms, 0, h => by
    simp at h; subst h
    rw [List.set_cons_zero]
    refine ⟨fun n => ?_, ?_⟩
    · rw [List.filter_cons_of_neg (by simp), List.filter_cons_of_pos (by simp [hp]; omega), List.map_cons, List.count_cons]
      rw [List.count_cons, List.count_nil, Nat.zero_add]
    · rw [List.filter_cons_of_neg (by simp), List.filter_cons_of_neg (by simp [hp])]
  | m :: ms, j + 1, h => by
    obtain ⟨i1, i2⟩ := onM_set hp (ms := ms) (j := j) (by simpa using h)
    rw [List.set_cons_succ]
    refine ⟨fun n => ?_, ?_⟩
    · have := i1 n
      rw [List.filter_cons, List.filter_cons (xs := ms)]
      generalize [(k : Int) + 1].count n = z at *
      split
      · simp only [List.map_cons, List.count_cons]; omega
      · exact this
    · rw [List.filter_cons, List.filter_cons (xs := ms), i2]
theorem yield_keeps {s : St} (hq : ∀ g ∈ s.gs, g.seq < 2305843009213693951) (m : Int) : s.yield m = (St.nil, 1) ∨ ((s.yield m).2 = 0 ∧ Keeps s (s.yield m).1) := by
  by_cases h : s.may = true ∧ (1 ≤ m ∧ m ≤ s.ms.length) ∧ (s.mAt m).1 ≠ 0 ∧ (s.mAt m).2 ≠ 0
  · right
    obtain ⟨hm, hj, h1, h2⟩ := h
    have hps := may_procs hm
    obtain ⟨j, rfl⟩ : ∃ j : Nat, m = (j : Int) + 1 := ⟨(m - 1).toNat, by omega⟩
    obtain ⟨⟨mp, mg⟩, hx⟩ : ∃ x, s.ms[j]? = some x := ⟨_, List.getElem?_eq_getElem (by omega)⟩
    rw [mAt_of hx] at h1 h2
    obtain ⟨k, y, rfl, hy⟩ := may_onM hm hx h1 h2
    simp only at h1
    have hjl := (List.getElem?_eq_some_iff.1 hx).1
    have hkl := (List.getElem?_eq_some_iff.1 hy).1
    obtain ⟨y2, ym⟩ := wantM hm hx h1 hy
    rw [yield_yes hm hx h1 hy]
    obtain ⟨q1, q2, q4, q5, q6, q7⟩ := may_parts hm
    have hs := stands_times (q7 k y hy)
    rw [y2] at hs
    unfold times want at hs
    simp only [Int.reduceEq, if_false, if_true] at hs
    obtain ⟨o1, o2⟩ := onM_set (k := k) h1 hx
    obtain ⟨x0, hx0⟩ : ∃ x0, s.ps[0]? = some x0 := ⟨_, List.getElem?_eq_getElem (by omega)⟩
    have hps0 : s.ps = s.ps.set 0 x0 := by
      apply List.ext_getElem?
      intro a
      by_cases ha : a = 0
      · subst ha
        rw [List.getElem?_set_self (by omega), hx0]
      · rw [List.getElem?_set_ne (Ne.symm ha)]
    have hmay : ({ s with ms := s.ms.set j (mp, 0), gs := s.gs.set k { y with st := 1, m := 0, seq := y.seq + 1 }, glob := s.glob ++ [(k : Int) + 1] } : St).may = true := by
      refine may_step hm (k := k) (y := y) (y' := { y with st := 1, m := 0, seq := y.seq + 1 }) ?_ (goods_set (s := s) q2 rfl hy rfl rfl rfl (low_succ (good_seq hm hy) (hq y (List.mem_of_getElem? hy)))) (holds_set q4 rfl hx0 hps0 (by simp only [List.length_set]) (fun a => ?_) rfl rfl (may_ring hm hx0) (fun hh => by omega)) q5 hy rfl (fun n hn => ?_) (fun n hn => ?_) (fun n hn => rfl) (fun n _ => ?_) (by simp) ?_ ?_ hs.2.2.1 ?_ ?_ (fun a g ha hg h24 => ?_)
      · unfold whole at q1 ⊢
        simp only [List.length_set] at q1 ⊢
        exact q1
      · simp only
        rw [List.getD, List.getD]
        by_cases haj : a = j
        · subst haj
          rw [List.getElem?_set_self hjl, hx]
          rfl
        · rw [List.getElem?_set_ne (Ne.symm haj)]
      · unfold runs
        simp only [List.count_append]
        rw [List.count_eq_zero.2 (show n ∉ [(k : Int) + 1] by simpa using hn)]
        omega
      · have := o1 n
        rw [List.count_eq_zero.2 (show n ∉ [(k : Int) + 1] by simpa using hn)] at this
        exact this
      · unfold onM
        simp only
        rw [o2]
      · have h0 := hs.1
        unfold runs at h0 ⊢
        simp only [List.count_append] at h0 ⊢
        rw [List.count_singleton_self]
        have : want 1 1 = 1 := rfl
        omega
      · have := o1 ((k : Int) + 1)
        rw [List.count_singleton_self] at this
        have h0 := hs.2.1
        unfold onM at h0 ⊢
        have : want 1 2 = 0 := rfl
        simp only
        omega
      · have h0 := hs.2.2.2
        unfold onM at h0 ⊢
        simp only
        rw [o2]
        exact h0
      · simp
      · have hst := q7 a g hg
        unfold stands at hst
        simp only [Bool.and_eq_true] at hst
        have h8 := hst.2
        rw [if_neg (by omega)] at h8
        simp only [Bool.and_eq_true, decide_eq_true_eq] at h8
        simp only [List.length_set]
        refine ⟨h8.1.2, ?_⟩
        have hne : (g.m - 1).toNat ≠ j := fun he => by
          have := h8.2
          rw [he, List.getD, hx] at this
          simp at this
          omega
        rw [List.getD, List.getElem?_set_ne (Ne.symm hne)]
        exact h8.2
    refine ⟨rfl, keeps_set hm hmay (by simp only [List.length_set]) hx0 hps0 fun a g g' ha ha' hst => ?_⟩
    have hak : a ≠ k := fun hak => by
      subst hak
      simp only at ha'
      rw [List.getElem?_set_self hkl] at ha'
      rw [hy] at ha
      obtain rfl := Option.some.inj ha
      obtain rfl := Option.some.inj ha'
      simp only at hst
      omega
    simp only at ha'
    rw [List.getElem?_set_ne (Ne.symm hak), ha] at ha'
    obtain rfl := Option.some.inj ha'
    exact ⟨rfl, fun hg => List.mem_append_left _ hg, id, .inl, rfl⟩
  · exact .inl (yield_no h)
theorem drain_keeps (s : St) (p : Int) : s.drain p = (St.nil, 1) ∨ ((s.drain p).2 = 0 ∧ Keeps s (s.drain p).1) := by
  rcases drain_cases s p with h | ⟨i, x, rfl, hm, hp, hx, h⟩
  · exact .inl h
  · right
    rw [h]
    refine ⟨rfl, keeps_set hm (dried_may hm hx) rfl hx (x' := { x with next := 0, ring := Ri.zero }) rfl fun j g g' hj hj' hst => ?_⟩
    have : s.gs[j]? = some g' := hj'
    rw [hj] at this
    obtain rfl := Option.some.inj this
    refine ⟨rfl, fun hg => List.mem_append_left _ hg, fun he => ?_, fun he => ?_, rfl⟩
    · simp only at he; omega
    · simp only [Ri.zero_list] at he
      cases he
end St
end Go.Proofs.Ytogcfndhcphpaaa
namespace Go.Proofs.Ytogcfndhcphpaaa
open Go.RowKit
def KeepE (s t : St) (e : Int) : Prop := e = 1 ∨ (e = 0 ∧ St.Keeps s t)
theorem St.small_seqs {s : St} (h : s.small = true) : ∀ g ∈ s.gs, g.seq < 2305843009213693951 := by
  unfold St.small at h
  simp only [Bool.and_eq_true, decide_eq_true_eq, List.all_eq_true] at h
  intro g hg
  have := h.1.1.1 g hg
  omega
set_option maxRecDepth 100000 in
set_option maxHeartbeats 32000000 in
theorem walk_ReadyKeeps (h : StH) (s : St) (p n : Int) (w : World) (hk : StOk w h s) (hi : StIn s) (_ : (Lit.int .i64 p).wf = true) (_ : (Lit.int .i64 n).wf = true) : Calls Try.prog 5 #[stV h s, .int .i64 p, .int .i64 n] w fun e w' => e = .returned (.bool true) ∧ Ext w w' := by
  have HI := Lib.hid hi
  have HK := Lib.hid hk
  obtain ⟨w1, hw1⟩ : ∃ w1, w.alloc (.cells #[.slice h.pa s.prog.length h.pc, .slice h.ga s.gs.length h.gc, .slice h.qa s.ps.length h.qc, .slice h.ma s.ms.length h.mc, .slice h.la s.glob.length h.lc, .int .i64 s.c0, .int .i64 s.c1, .int .i64 s.c2, .int .i64 s.c3, .slice h.a0 s.w0.length h.k0, .slice h.a1 s.w1.length h.k1, .slice h.a2 s.w2.length h.k2, .slice h.a3 s.w3.length h.k3, .slice h.ta s.timers.length h.tc, .int .i64 s.clock, .int .i64 s.procs] 32) = w1 := ⟨_, rfl⟩
  have HX1 : Hid (Ext w w1) := Lib.hid (by rw [← hw1]; exact (Ext.refl w).alloc _)
  have HB1 : Hid (w1.heap[w.heap.size]? = some (.cells (stC h s) 32 (0, 0))) := Lib.hid (by rw [← hw1]; exact blk_new w _)
  have HK1 := Lib.hid (hk.ext HX1.out)
  have HW1 := Lib.hid hw1
  clear hw1 hk
  clear hi
  unfold stV
  go_enter Try.func5, Try.ntmps5
  go_upto_region 1 with fail
  rw [HW1.out]
  generalize Value.agg #[.slice h.pa s.prog.length h.pc, .slice h.ga s.gs.length h.gc, .slice h.qa s.ps.length h.qc, .slice h.ma s.ms.length h.mc, .slice h.la s.glob.length h.lc, .int .i64 s.c0, .int .i64 s.c1, .int .i64 s.c2, .int .i64 s.c3, .slice h.a0 s.w0.length h.k0, .slice h.a1 s.w1.length h.k1, .slice h.a2 s.w2.length h.k2, .slice h.a3 s.w3.length h.k3, .slice h.ta s.timers.length h.tc, .int .i64 s.clock, .int .i64 s.procs] = sv0
  obtain ⟨W0, hW0⟩ : ∃ W0, w.heap.size = W0 := ⟨_, rfl⟩
  rw [hW0] at HB1
  rw [hW0]
  have HW0 := Lib.hid hW0
  clear hW0
  go_wp2_with fail
  refine (rfixed_yes w1).mono ?_
  rintro e w2 ⟨rfl, hx2⟩
  have HX2 := Lib.hid hx2
  have HLD := Lib.hid (hx2.blk HB1.out)
  clear hx2
  go_wp2_with (refine wpList_load_rowW (by rfl) 32 _ rfl W0 (by go_simp) (stL h s) (stV h s) rfl _ (range_row HLD.out) Try.underlying32 rfl (by kernel_rfl) ?_)
  refine (rstsmall_any h s _ rfl w2 (HK1.out.ext HX2.out) HI.out).mono ?_
  rintro e w3 ⟨rfl, hx3⟩
  have HX4 := Lib.hid (HX2.out.trans hx3)
  clear hx3 HLD
  cases bs : s.small with
  | false =>
    go_wp2_with fail
    refine (rfixed_yes _).mono ?_
    rintro e w9 ⟨rfl, hx9⟩
    have HX9 := Lib.hid (HX1.out.trans (HX4.out.trans hx9))
    clear hx9
    go_wp2
    go_ret
    exact ⟨rfl, HX9.out⟩
  | true =>
  have HF := Lib.hid (St.small_few bs HI.out)
  have HSM := Lib.hid bs
  have HGL := Lib.hid (St.small_glob bs)
  have HLD := Lib.hid (HX4.out.blk HB1.out)
  clear bs
  go_wp2_with (refine wpList_load_rowW (by rfl) 32 _ rfl W0 (by go_simp) (stL h s) (stV h s) rfl _ (range_row HLD.out) Try.underlying32 rfl (by kernel_rfl) ?_)
  refine (rstmay_any h s _ rfl w3 (HK1.out.ext HX4.out) HF.out).mono ?_
  rintro e w4 ⟨rfl, hx4⟩
  have HX5 := Lib.hid (HX4.out.trans hx4)
  clear hx4 HLD HX4
  have HX4 := Lib.hid HX5.out
  clear HX5
  cases bm : s.may with
  | false =>
    go_wp2_with fail
    refine (rfixed_yes _).mono ?_
    rintro e w9 ⟨rfl, hx9⟩
    have HX9 := Lib.hid (HX1.out.trans (HX4.out.trans hx9))
    clear hx9
    go_wp2
    go_ret
    exact ⟨rfl, HX9.out⟩
  | true =>
  have HM := Lib.hid bm
  clear bm
  have HSG : Hid (StGood s) := Lib.hid ⟨HF.out, HK1.out.buf, St.small_timers HSM.out⟩
  have HQ : Hid (∀ g ∈ s.gs, g.seq < 2305843009213693951) := Lib.hid (St.small_seqs HSM.out)
  obtain ⟨⟨sa, ea⟩, hsa⟩ : ∃ q, s.wake p n = q := ⟨_, rfl⟩
  have HGa : Hid (StGood sa) := Lib.hid (by have := St.wake_good HSG.out HGL.out p n; rw [hsa] at this; exact this)
  have HVa : Hid (KeepE s sa ea) := Lib.hid (by
    have := St.wake_keeps HK1.out.buf HQ.out p n
    rw [hsa] at this
    rcases this with h | h
    · injection h with h1 h2; exact .inl h2
    · exact .inr h)
  have HSa := Lib.hid hsa
  clear hsa
  have HLD := Lib.hid (HX4.out.blk HB1.out)
  go_wp2_with (refine wpList_load_rowW (by rfl) 32 _ rfl W0 (by go_simp) (stL h s) (stV h s) rfl _ (range_row HLD.out) Try.underlying32 rfl (by kernel_rfl) ?_)
  refine (rdWake_any h s p n _ HSa.out w4 (HK1.out.ext HX4.out) HF.out).mono ?_
  rintro e w5 ⟨h5, rfl, ⟨I, hap⟩, hx⟩
  simp only at hap ⊢
  have HK5 := Lib.hid (hap.ok HGa.out.buf)
  have HX5 := Lib.hid (HX4.out.trans hx)
  have HZ5 : Hid (Ext w4 w5) := Lib.hid hx
  obtain ⟨wb5, wc5, hwb, hwc, hth, hbc, hxc⟩ := st_box w5 h5 sa
  obtain ⟨B5, hB⟩ : ∃ B5, w5.heap.size = B5 := ⟨_, rfl⟩
  rw [hB] at hwc hth hbc
  have HWB5 := Lib.hid hwb
  have HB5 := Lib.hid hB
  have HWC5 := Lib.hid hwc
  have HTH5 := Lib.hid hth
  have HBS5 := Lib.hid hbc
  have HXC5 := Lib.hid hxc
  clear hwb hwc hth hbc hxc hB
  have HY5 := Lib.hid (HX5.out.trans HXC5.out)
  clear hap hx HLD
  go_upto_region 4 with (first | rw [HWB5.out, HB5.out] | (refine wpList_store_row rfl 32 _ _ rfl B5 (stL h5 sa) (stV h5 sa) (by go_simp) (by go_simp) rfl HTH5.out (by kernel_rfl) (stL_one _ _) HWC5.out ?_))
  have HQ5 : Hid (Ext wc5 wc5) := Lib.hid (Ext.refl _)
  obtain ⟨⟨sb, eb⟩, hsb⟩ : ∃ q, s.yield n = q := ⟨_, rfl⟩
  have HGb : Hid (StGood sb) := Lib.hid (by have := St.yield_good HSG.out HGL.out n; rw [hsb] at this; exact this)
  have HVb : Hid (KeepE s sb eb) := Lib.hid (by
    have := St.yield_keeps HQ.out n
    rw [hsb] at this
    rcases this with h | h
    · injection h with h1 h2; exact .inl h2
    · exact .inr h)
  have HSb := Lib.hid hsb
  clear hsb
  have HLD := Lib.hid (HY5.out.blk HB1.out)
  go_wp2_with (refine wpList_load_rowW (by rfl) 32 _ rfl W0 (by go_simp) (stL h s) (stV h s) rfl _ (range_row HLD.out) Try.underlying32 rfl (by kernel_rfl) ?_)
  refine (rdYield_any h s n _ HSb.out wc5 (HK1.out.ext HY5.out) HF.out).mono ?_
  rintro e w6 ⟨h6, rfl, ⟨I, hap⟩, hx⟩
  simp only at hap ⊢
  have HK6 := Lib.hid (hap.ok HGb.out.buf)
  have HX6 := Lib.hid (HY5.out.trans hx)
  have HZ6 : Hid (Ext wc5 w6) := Lib.hid hx
  obtain ⟨wb6, wc6, hwb, hwc, hth, hbc, hxc⟩ := st_box w6 h6 sb
  obtain ⟨B6, hB⟩ : ∃ B6, w6.heap.size = B6 := ⟨_, rfl⟩
  rw [hB] at hwc hth hbc
  have HWB6 := Lib.hid hwb
  have HB6 := Lib.hid hB
  have HWC6 := Lib.hid hwc
  have HTH6 := Lib.hid hth
  have HBS6 := Lib.hid hbc
  have HXC6 := Lib.hid hxc
  clear hwb hwc hth hbc hxc hB
  have HY6 := Lib.hid (HX6.out.trans HXC6.out)
  clear hap hx HLD
  go_upto_region 5 with (first | rw [HWB6.out, HB6.out] | (refine wpList_store_row rfl 32 _ _ rfl B6 (stL h6 sb) (stV h6 sb) (by go_simp) (by go_simp) rfl HTH6.out (by kernel_rfl) (stL_one _ _) HWC6.out ?_))
  have HQ5 := Lib.hid (HQ5.out.trans (HZ6.out.trans HXC6.out))
  have HQ6 : Hid (Ext wc6 wc6) := Lib.hid (Ext.refl _)
  obtain ⟨⟨sc, ec⟩, hsc⟩ : ∃ q, s.drain p = q := ⟨_, rfl⟩
  have HGc : Hid (StGood sc) := Lib.hid (by have := St.drain_good HSG.out HGL.out p; rw [hsc] at this; exact this)
  have HVc : Hid (KeepE s sc ec) := Lib.hid (by
    have := St.drain_keeps s p
    rw [hsc] at this
    rcases this with h | h
    · injection h with h1 h2; exact .inl h2
    · exact .inr h)
  have HSc := Lib.hid hsc
  clear hsc
  have HLD := Lib.hid (HY6.out.blk HB1.out)
  go_wp2_with (refine wpList_load_rowW (by rfl) 32 _ rfl W0 (by go_simp) (stL h s) (stV h s) rfl _ (range_row HLD.out) Try.underlying32 rfl (by kernel_rfl) ?_)
  refine (rdDrain_any h s p _ HSc.out wc6 (HK1.out.ext HY6.out) HF.out).mono ?_
  rintro e w7 ⟨h7, rfl, ⟨I, hap⟩, hx⟩
  simp only at hap ⊢
  have HK7 := Lib.hid (hap.ok HGc.out.buf)
  have HX7 := Lib.hid (HY6.out.trans hx)
  have HZ7 : Hid (Ext wc6 w7) := Lib.hid hx
  obtain ⟨wb7, wc7, hwb, hwc, hth, hbc, hxc⟩ := st_box w7 h7 sc
  obtain ⟨B7, hB⟩ : ∃ B7, w7.heap.size = B7 := ⟨_, rfl⟩
  rw [hB] at hwc hth hbc
  have HWB7 := Lib.hid hwb
  have HB7 := Lib.hid hB
  have HWC7 := Lib.hid hwc
  have HTH7 := Lib.hid hth
  have HBS7 := Lib.hid hbc
  have HXC7 := Lib.hid hxc
  clear hwb hwc hth hbc hxc hB
  have HY7 := Lib.hid (HX7.out.trans HXC7.out)
  clear hap hx HLD
  go_upto_region 6 with (first | rw [HWB7.out, HB7.out] | (refine wpList_store_row rfl 32 _ _ rfl B7 (stL h7 sc) (stV h7 sc) (by go_simp) (by go_simp) rfl HTH7.out (by kernel_rfl) (stL_one _ _) HWC7.out ?_))
  have HQ5 := Lib.hid (HQ5.out.trans (HZ7.out.trans HXC7.out))
  have HQ6 := Lib.hid (HQ6.out.trans (HZ7.out.trans HXC7.out))
  have HQ7 : Hid (Ext wc7 wc7) := Lib.hid (Ext.refl _)
  have BB5 := Lib.hid (HQ5.out.blk HBS5.out)
  have KK5 := Lib.hid (HK5.out.ext (HXC5.out.trans HQ5.out))
  have BB6 := Lib.hid (HQ6.out.blk HBS6.out)
  have KK6 := Lib.hid (HK6.out.ext (HXC6.out.trans HQ6.out))
  have BB7 := Lib.hid (HQ7.out.blk HBS7.out)
  have KK7 := Lib.hid (HK7.out.ext (HXC7.out.trans HQ7.out))
  have BS := Lib.hid (HY7.out.blk HB1.out)
  have KS := Lib.hid (HK1.out.ext HY7.out)
  have TRI : Hid (∀ k : Nat, k < 3 → ∃ ht st et, KeepE s st et ∧ StGood st ∧ StOk wc7 ht st ∧ [ea, eb, ec][k]? = some et ∧ ∀ (w : World) (g : Nat), w.rangeAt g 0 (stL h5 sa ++ stL h6 sb ++ stL h7 sc) → w.rangeAt g (k * 16) (stL ht st)) := Lib.hid (fun k hk => by
    obtain rfl | rfl | rfl : k = 0 ∨ k = 1 ∨ k = 2 := by omega
    · exact ⟨h5, sa, ea, HVa.out, HGa.out, KK5.out, rfl, fun w g hr j u hu => by
        have hj : j < 16 := (List.getElem?_eq_some_iff.1 hu).1
        have := hr j u (by rw [List.append_assoc, List.getElem?_append_left hj]; exact hu)
        exact this⟩
    · exact ⟨h6, sb, eb, HVb.out, HGb.out, KK6.out, rfl, fun w g hr j u hu => by
        have hj : j < 16 := (List.getElem?_eq_some_iff.1 hu).1
        have := hr (16 + j) u (by rw [List.append_assoc, List.getElem?_append_right (show (stL h5 sa).length ≤ 16 + j from Nat.le_add_right 16 j), show 16 + j - (stL h5 sa).length = j from Nat.add_sub_cancel_left 16 j, List.getElem?_append_left hj]; exact hu)
        rwa [Nat.zero_add] at this⟩
    · exact ⟨h7, sc, ec, HVc.out, HGc.out, KK7.out, rfl, fun w g hr j u hu => by
        have hj : j < 16 := (List.getElem?_eq_some_iff.1 hu).1
        have := hr (32 + j) u (by rw [List.getElem?_append_right (show (stL h5 sa ++ stL h6 sb).length ≤ 32 + j from Nat.le_add_right 32 j), show 32 + j - (stL h5 sa ++ stL h6 sb).length = j from Nat.add_sub_cancel_left 32 j]; exact hu)
        rwa [Nat.zero_add] at this⟩)
  go_wp2_with fail
  go_loopw [13] (fun iv wr => ∃ k : Nat, k ≤ 3 ∧ iv = .int .i64 k ∧ Ext wc7 wr) (fun iv _ => 3 - (intOf iv).toNat)
  case atStart => exact ⟨0, by omega, rfl, Ext.refl _⟩
  case round =>
    obtain ⟨k, hk, rfl, hx⟩ := hrel
    have HX := Lib.hid hx
    clear hx
    by_cases hlt : k < 3
    · have e1 : (k : Int) < 3 := by omega
      have LD5 := Lib.hid (HX.out.blk BB5.out)
      have LD6 := Lib.hid (HX.out.blk BB6.out)
      have LD7 := Lib.hid (HX.out.blk BB7.out)
      obtain ⟨ht, st, et, hke, hgo, hok, het, hrt⟩ := TRI.out k hlt
      have HKE := Lib.hid hke
      have HGO := Lib.hid hgo
      obtain ⟨N, hN⟩ : ∃ N, wr.heap.size = N := ⟨_, rfl⟩
      obtain ⟨wk, hwk⟩ : ∃ wk, wr.alloc (.cells (stL h5 sa ++ stL h6 sb ++ stL h7 sc).toArray 32) = wk := ⟨_, rfl⟩
      have hxk : Ext wr wk := by rw [← hwk]; exact (Ext.refl wr).alloc _
      have hbk : wk.heap[N]? = some (.cells (stL h5 sa ++ stL h6 sb ++ stL h7 sc).toArray 32 (0, 0)) := by rw [← hwk, ← hN]; exact blk_new wr _
      have HRT : Hid (wk.rangeAt N (k * 16) (stL ht st)) := Lib.hid (hrt wk N (range_row hbk))
      have HBSL : Hid (Try.prog.builtSlice 32 3 [(0, stV h5 sa), (1, stV h6 sb), (2, stV h7 sc)] = some (stL h5 sa ++ stL h6 sb ++ stL h7 sc).toArray) := Lib.hid (by kernel_rfl)
      obtain ⟨wb8, wc8, hwb, hwc, hth, hbc, hxc⟩ := st_box wk ht st
      obtain ⟨B8, hB⟩ : ∃ B8, wk.heap.size = B8 := ⟨_, rfl⟩
      rw [hB] at hwc hth hbc
      have HWB8 := Lib.hid hwb
      have HB8 := Lib.hid hB
      have HWC8 := Lib.hid hwc
      have HTH8 := Lib.hid hth
      have HBS8 := Lib.hid hbc
      have HXC8 := Lib.hid hxc
      clear hwb hwc hth hbc hxc hB
      have HXK : Hid (Ext wr wc8) := Lib.hid (hxk.trans HXC8.out)
      obtain ⟨N2, hN2⟩ : ∃ N2, wc8.heap.size = N2 := ⟨_, rfl⟩
      obtain ⟨wm, hwm⟩ : ∃ wm, wc8.alloc (.cells #[.int .i64 ea, .int .i64 eb, .int .i64 ec] 42) = wm := ⟨_, rfl⟩
      have hbm : wm.heap[N2]? = some (.cells #[.int .i64 ea, .int .i64 eb, .int .i64 ec] 42 (0, 0)) := by rw [← hwm, ← hN2]; exact blk_new wc8 _
      have c1 : wm.cell? ⟨N2, k, none⟩ = some (.int .i64 et) := blk_cell hbm k _ (by
        obtain rfl | rfl | rfl : k = 0 ∨ k = 1 ∨ k = 2 := by omega
        all_goals
          simp only [List.getElem?_cons_zero, List.getElem?_cons_succ, Option.some.injEq] at het
          subst het
          rfl)
      have HXM : Hid (Ext wr wm) := Lib.hid (by rw [← hwm]; exact HXK.out.alloc _)
      have HBT8 : Hid (wm.heap[B8]? = some (.cells (stC ht st) 32 (0, 0))) := Lib.hid (by rw [← hwm]; exact blk_alloc HBS8.out _)
      have HKT : Hid (StOk wm ht st) := Lib.hid (hok.ext (HX.out.trans HXM.out))
      have HN := Lib.hid hN
      have HWK := Lib.hid hwk
      have HN2 := Lib.hid hN2
      have HWM := Lib.hid hwm
      clear hke hgo hok het hrt hN hwk hxk hbk hN2 hwm hbm
      go_upto_region 9 with fail
      go_wp2_with ((refine wpList_load_rowW (by rfl) 32 _ rfl B5 (by go_simp) (stL h5 sa) (stV h5 sa) rfl _ (range_row LD5.out) Try.underlying32 rfl (by kernel_rfl) ?_); generalize hgoal : wpList _ _ _ _ _ _ = G)
      subst hgoal
      go_wp2_with ((refine wpList_load_rowW (by rfl) 32 _ rfl B6 (by go_simp) (stL h6 sb) (stV h6 sb) rfl _ (range_row LD6.out) Try.underlying32 rfl (by kernel_rfl) ?_); generalize hgoal : wpList _ _ _ _ _ _ = G)
      subst hgoal
      go_wp2_with ((refine wpList_load_rowW (by rfl) 32 _ rfl B7 (by go_simp) (stL h7 sc) (stV h7 sc) rfl _ (range_row LD7.out) Try.underlying32 rfl (by kernel_rfl) ?_); generalize hgoal : wpList _ _ _ _ _ _ = G)
      subst hgoal
      refine Great.wpList_buildSliceTo rfl 49 32 3 _ rfl N HN.out _ rfl Try.underlying49 (stL h5 sa ++ stL h6 sb ++ stL h7 sc).toArray (by simp only [List.map_toArray, List.map_cons, List.map_nil]; go_simp; exact HBSL.out) ?_
      rw [HWK.out]
      clear HBSL
      go_wp2_with ((refine wpList_load_rowM (by rfl) 32 _ rfl N (k * 16) (by go_simp) (stL ht st) (stV ht st) rfl _ HRT.out Try.underlying32 rfl (by kernel_rfl) ?_); generalize hgoal : wpList _ _ _ _ _ _ = G)
      subst hgoal
      go_upto_region 10 with (first | rw [HWB8.out, HB8.out] | (refine wpList_store_row rfl 32 _ _ rfl B8 (stL ht st) (stV ht st) (by go_simp) (by go_simp) rfl HTH8.out (by kernel_rfl) (stL_one _ _) HWC8.out ?_))
      go_upto_region 11 with (first | rw [HWM.out, HN2.out])
      clear c1
      rcases HKE.out with he | ⟨he, hkeep⟩
      · subst he
        go_wp2
        go_roundw
        case rel => exact ⟨k + 1, by omega, by go_num, HX.out.trans HXM.out⟩
        case measure => simp [intOf]; omega
      · subst he
        have HKP := Lib.hid hkeep
        have hgl : st.gs.length = s.gs.length := hkeep.2.1
        have HGLN := Lib.hid hgl
        clear hkeep hgl
        have BSM := Lib.hid ((HX.out.trans HXM.out).blk BS.out)
        go_wp2_with (refine wpList_load_rowW (by rfl) 32 _ rfl B8 (by go_simp) (stL ht st) (stV ht st) rfl _ (range_row HBT8.out) Try.underlying32 rfl (by kernel_rfl) ?_)
        refine (rstmay_any ht st true HKP.out.1 wm HKT.out HGO.out.few).mono ?_
        rintro e wn ⟨rfl, hxn⟩
        have HXN := Lib.hid ((HX.out.trans HXM.out).trans hxn)
        have BTN := Lib.hid (hxn.blk HBT8.out)
        have BSN := Lib.hid (hxn.blk BSM.out)
        have KTN := Lib.hid (HKT.out.ext hxn)
        have KSN := Lib.hid (KS.out.ext HXN.out)
        have q1 := st1 BSN.out
        have q2 : wn.cell? ⟨B8, 1, none⟩ = some (.slice ht.ga s.gs.length ht.gc) := by have := st1 BTN.out; rw [HGLN.out] at this; exact this
        clear hxn
        go_upto_region 16 with fail
        clear q1 q2
        go_wp2_with fail
        go_loopw [16] (fun xv wq => ∃ j : Nat, j ≤ s.gs.length ∧ xv = .int .i64 ((j : Int) + 1) ∧ Ext wn wq) (fun xv _ => s.gs.length + 1 - (intOf xv).toNat)
        case atStart => exact ⟨0, by omega, rfl, Ext.refl _⟩
        case round =>
          obtain ⟨j, hj, rfl, hxq⟩ := hrel
          have HXQ := Lib.hid hxq
          have BSQ := Lib.hid (hxq.blk BSN.out)
          have BTQ := Lib.hid (hxq.blk BTN.out)
          have KSQ := Lib.hid (KSN.out.ext hxq)
          have KTQ := Lib.hid (KTN.out.ext hxq)
          have HFG : Hid (s.gs.length ≤ 100000) := Lib.hid HF.out.gs
          have q1 := st1 BSQ.out
          obtain ⟨wq, hwq⟩ : ∃ wq, wr = wq := ⟨_, rfl⟩
          subst hwq
          clear hxq
          by_cases hjl : j < s.gs.length
          · have e2 : (j : Int) + 1 ≤ (s.gs.length : Int) := by omega
            go_upto_region 19 with fail
            clear q1
            obtain ⟨g, hg⟩ : ∃ g, s.gs[j]? = some g := ⟨_, List.getElem?_eq_getElem hjl⟩
            obtain ⟨g', hg'⟩ : ∃ g', st.gs[j]? = some g' := ⟨_, List.getElem?_eq_getElem (by rw [HGLN.out]; exact hjl)⟩
            obtain ⟨xk, xn, hpx⟩ : ∃ xk xn, s.place ((j : Int) + 1) = (xk, xn) := ⟨_, _, rfl⟩
            obtain ⟨yk, yn, hpy⟩ : ∃ yk yn, st.place ((j : Int) + 1) = (yk, yn) := ⟨_, _, rfl⟩
            have HMV : Hid (g.st = g'.st → St.okMove (xk, xn) (yk, yn) = true) := Lib.hid (fun he => by rw [← hpx, ← hpy]; exact HKP.out.2.2 j g g' hg hg' he)
            have HG := Lib.hid hg
            have HG' := Lib.hid hg'
            have HPX := Lib.hid hpx
            have HPY := Lib.hid hpy
            clear hg hg' hpx hpy
            refine region_rgw ([(2, (fun u => u = .agg #[.int .i64 xk, .int .i64 xn] : Value → Prop), (fun _ _ => True : (Nat → GV) → World → Prop)), (5, (fun u => u = .agg #[.int .i64 yk, .int .i64 yn] : Value → Prop), (fun _ _ => True : (Nat → GV) → World → Prop)), (6, (fun u => ∃ g, u = .pointer (some ⟨g, 0, none⟩) : Value → Prop), (fun u w => BoxW 52 2 wr w (u 6) : (Nat → GV) → World → Prop)), (7, (fun u => ∃ g, u = .pointer (some ⟨g, 0, none⟩) : Value → Prop), (fun u w => BoxW 52 2 wr w (u 7) : (Nat → GV) → World → Prop)), (8, (fun u => u = undef : Value → Prop), (fun u w => HasW 52 wr w (u 6) [.int .i64 xk, .int .i64 xn] : (Nat → GV) → World → Prop)), (9, (fun u => u = undef : Value → Prop), (fun u w => HasW 52 wr w (u 7) [.int .i64 yk, .int .i64 yn] : (Nat → GV) → World → Prop))]) (wr) ([(8, 0, [6]), (9, 0, [7])]) (by kernel_rfl) (by kernel_rfl) ?_ ?_ ?_ ?_
            · exact List.forall_mem_cons.2 ⟨List.forall_mem_cons.2 ⟨by kernel_rfl, List.forall_mem_nil _⟩, List.forall_mem_cons.2 ⟨List.forall_mem_cons.2 ⟨by kernel_rfl, List.forall_mem_nil _⟩, List.forall_mem_nil _⟩⟩
            · exact List.forall_mem_cons.2 ⟨⟨⟨_, rfl⟩, fun _ _ _ _ _ => trivial, fun _ _ _ _ _ => trivial, List.forall_mem_cons.2 ⟨fun _ _ _ _ _ _ _ _ _ => trivial, List.forall_mem_cons.2 ⟨fun _ _ _ _ _ _ _ _ _ => trivial, List.forall_mem_nil _⟩⟩⟩, List.forall_mem_cons.2 ⟨⟨⟨_, rfl⟩, fun _ _ _ _ _ => trivial, fun _ _ _ _ _ => trivial, List.forall_mem_cons.2 ⟨fun _ _ _ _ _ _ _ _ _ => trivial, List.forall_mem_cons.2 ⟨fun _ _ _ _ _ _ _ _ _ => trivial, List.forall_mem_nil _⟩⟩⟩, List.forall_mem_cons.2 ⟨⟨⟨_, 0, rfl⟩, fun u v w h ht => by show (fun u w => BoxW 52 2 wr w (u 6) : (Nat → GV) → World → Prop) v w; dsimp only; rw [← h 6 (.inl rfl) (by kernel_rfl)]; exact ht, fun u w w2 hx ht => ht.ext hx, List.forall_mem_cons.2 ⟨fun _ hp => by first | (intro u w w2 hap haq hc ht; (exact ht.chg hc); done) | exact rg_vac hp (by kernel_rfl), List.forall_mem_cons.2 ⟨fun _ hp => by first | (intro u w w2 hap haq hc ht; (exact ht.chg hc); done) | exact rg_vac hp (by kernel_rfl), List.forall_mem_nil _⟩⟩⟩, List.forall_mem_cons.2 ⟨⟨⟨_, 0, rfl⟩, fun u v w h ht => by show (fun u w => BoxW 52 2 wr w (u 7) : (Nat → GV) → World → Prop) v w; dsimp only; rw [← h 7 (.inl rfl) (by kernel_rfl)]; exact ht, fun u w w2 hx ht => ht.ext hx, List.forall_mem_cons.2 ⟨fun _ hp => by first | (intro u w w2 hap haq hc ht; (exact ht.chg hc); done) | exact rg_vac hp (by kernel_rfl), List.forall_mem_cons.2 ⟨fun _ hp => by first | (intro u w w2 hap haq hc ht; (exact ht.chg hc); done) | exact rg_vac hp (by kernel_rfl), List.forall_mem_nil _⟩⟩⟩, List.forall_mem_cons.2 ⟨⟨⟨_, rfl⟩, fun u v w h ht => by show (fun u w => HasW 52 wr w (u 6) [.int .i64 xk, .int .i64 xn] : (Nat → GV) → World → Prop) v w; dsimp only; rw [← h 6 (.inr (by kernel_rfl)) (by kernel_rfl)]; exact ht, fun u w w2 hx ht => ht.ext hx, List.forall_mem_cons.2 ⟨fun hne => absurd rfl hne, List.forall_mem_cons.2 ⟨fun _ hp => by first | (intro u w w2 hap haq hc ht; (refine ht.far hc ?_; intro x hx; simp only [List.map_cons, List.map_nil, List.mem_cons, List.not_mem_nil, or_false] at hx; subst hx; exact haq 7 (by simp) 6 (by kernel_rfl) (by kernel_rfl) (by decide)); done) | exact rg_vac hp (by kernel_rfl), List.forall_mem_nil _⟩⟩⟩, List.forall_mem_cons.2 ⟨⟨⟨_, rfl⟩, fun u v w h ht => by show (fun u w => HasW 52 wr w (u 7) [.int .i64 yk, .int .i64 yn] : (Nat → GV) → World → Prop) v w; dsimp only; rw [← h 7 (.inr (by kernel_rfl)) (by kernel_rfl)]; exact ht, fun u w w2 hx ht => ht.ext hx, List.forall_mem_cons.2 ⟨fun _ hp => by first | (intro u w w2 hap haq hc ht; (refine ht.far hc ?_; intro x hx; simp only [List.map_cons, List.map_nil, List.mem_cons, List.not_mem_nil, or_false] at hx; subst hx; exact haq 6 (by simp) 7 (by kernel_rfl) (by kernel_rfl) (by decide)); done) | exact rg_vac hp (by kernel_rfl), List.forall_mem_cons.2 ⟨fun hne => absurd rfl hne, List.forall_mem_nil _⟩⟩⟩, List.forall_mem_nil _⟩⟩⟩⟩⟩⟩
            · first | assumption | exact Ext.refl _
            refine rg_pure (v := stV h s) rfl (by kernel_rfl) (by kernel_rfl) (fun w hS hN => ?_) ?_
            · clear hN
              exact givesP_load 32 _ rfl _ (by go_simp) (stL h s) _ rfl _ (range_row (hS.blk BSQ.out)) Try.underlying32 rfl (by kernel_rfl)
            refine rg_pure (v := ?_) rfl (by kernel_rfl) (by kernel_rfl) (fun w hS hN => ?_) ?_
            rotate_left 1
            · clear hN
              go_simp
              refine givesP_mk ?_
              with_reducible rfl
            refine rg_mem (fun u => u = .agg #[.int .i64 xk, .int .i64 xn] : Value → Prop) (fun _ _ => True : (Nat → GV) → World → Prop) (fun _ => Ext) rfl rfl rfl rfl (by kernel_rfl) (by kernel_rfl) (fun w hS hN R hR => ?_) ?_
            · have HR := Lib.hid hR
              clear hR
              (try clear hN)
              go_simp
              refine givesM_call ((rPlace_any h s _ _ HPX.out w (KSQ.out.ext hS) HF.out).mono ?_)
              rintro e w' ⟨rfl, hx⟩
              exact ⟨_, rfl, HR.out _ _ rfl trivial hx⟩
            rintro u2 s2 t2 rfl
            refine rg_pure (v := stV ht st) rfl (by kernel_rfl) (by kernel_rfl) (fun w hS hN => ?_) ?_
            · clear hN
              exact givesP_load 32 _ rfl _ (by go_simp) (stL ht st) _ rfl _ (range_row (hS.blk BTQ.out)) Try.underlying32 rfl (by kernel_rfl)
            refine rg_pure (v := ?_) rfl (by kernel_rfl) (by kernel_rfl) (fun w hS hN => ?_) ?_
            rotate_left 1
            · clear hN
              go_simp
              refine givesP_mk ?_
              with_reducible rfl
            refine rg_mem (fun u => u = .agg #[.int .i64 yk, .int .i64 yn] : Value → Prop) (fun _ _ => True : (Nat → GV) → World → Prop) (fun _ => Ext) rfl rfl rfl rfl (by kernel_rfl) (by kernel_rfl) (fun w hS hN R hR => ?_) ?_
            · have HR := Lib.hid hR
              clear hR
              (try clear hN)
              go_simp
              refine givesM_call ((rPlace_any ht st _ _ HPY.out w (KTQ.out.ext hS) HGO.out.few).mono ?_)
              rintro e w' ⟨rfl, hx⟩
              exact ⟨_, rfl, HR.out _ _ rfl trivial hx⟩
            rintro u5 s5 t5 rfl
            refine rg_mem (fun u => ∃ g, u = .pointer (some ⟨g, 0, none⟩) : Value → Prop) (fun u w => BoxW 52 2 wr w (u 6) : (Nat → GV) → World → Prop) (fun _ => Ext) rfl rfl rfl rfl (by kernel_rfl) (by kernel_rfl) (fun w hS hN R hR => ?_) ?_
            · have HR := Lib.hid hR
              clear hR
              (try clear hN)
              go_simp
              exact givesM_val (HR.out _ _ ⟨_, rfl⟩ (BoxW.made hS [.int .i64 0, .int .i64 0]) ((Ext.refl w).alloc _))
            rintro u6 s6 t6 ⟨g6, rfl⟩
            refine rg_mem (fun u => ∃ g, u = .pointer (some ⟨g, 0, none⟩) : Value → Prop) (fun u w => BoxW 52 2 wr w (u 7) : (Nat → GV) → World → Prop) (fun _ => Ext) rfl rfl rfl rfl (by kernel_rfl) (by kernel_rfl) (fun w hS hN R hR => ?_) ?_
            · have HR := Lib.hid hR
              clear hR
              (try clear hN)
              go_simp
              exact givesM_val (HR.out _ _ ⟨_, rfl⟩ (BoxW.made hS [.int .i64 0, .int .i64 0]) ((Ext.refl w).alloc _))
            rintro u7 s7 t7 ⟨g7, rfl⟩
            refine rg_mem (fun u => u = undef : Value → Prop) (fun u w => HasW 52 wr w (u 6) [.int .i64 xk, .int .i64 xn] : (Nat → GV) → World → Prop) (fun u => ChgIn (wr) (0) ([6].map u)) rfl rfl rfl rfl (by kernel_rfl) (by kernel_rfl) (fun w hS hN R hR => ?_) ?_
            · have HR := Lib.hid hR
              clear hR
              have h6 : BoxW 52 2 wr w ⟨.pointer (some ⟨g6, 0, none⟩), s6, t6⟩ := hN.get 6 rfl (by kernel_rfl)
              obtain ⟨g, cz, hcz, hg, hg2, hg3, hg4⟩ := h6
              simp only [Value.pointer.injEq, Option.some.injEq, Addr.mk.injEq, and_true] at hg
              subst hg
              clear hN
              refine givesM_store 52 _ _ rfl g6 0 (by go_simp) [.int .i64 xk, .int .i64 xn] (by go_simp) (there_row hg4 (by simp [hcz])) (by kernel_rfl) (by simp [Value.oneCell']) ?_
              exact HR.out _ _ rfl ⟨g6, rfl, hg2, hg3, setCells_at cz _ hcz hg4⟩ (ChgIn.row hcz hS hg2 hg3 hg4)
            rintro u8 s8 t8 rfl
            refine rg_mem (fun u => u = undef : Value → Prop) (fun u w => HasW 52 wr w (u 7) [.int .i64 yk, .int .i64 yn] : (Nat → GV) → World → Prop) (fun u => ChgIn (wr) (0) ([7].map u)) rfl rfl rfl rfl (by kernel_rfl) (by kernel_rfl) (fun w hS hN R hR => ?_) ?_
            · have HR := Lib.hid hR
              clear hR
              have h7 : BoxW 52 2 wr w ⟨.pointer (some ⟨g7, 0, none⟩), s7, t7⟩ := hN.get 7 rfl (by kernel_rfl)
              obtain ⟨g, cz, hcz, hg, hg2, hg3, hg4⟩ := h7
              simp only [Value.pointer.injEq, Option.some.injEq, Addr.mk.injEq, and_true] at hg
              subst hg
              clear hN
              refine givesM_store 52 _ _ rfl g7 0 (by go_simp) [.int .i64 yk, .int .i64 yn] (by go_simp) (there_row hg4 (by simp [hcz])) (by kernel_rfl) (by simp [Value.oneCell']) ?_
              exact HR.out _ _ rfl ⟨g7, rfl, hg2, hg3, setCells_at cz _ hcz hg4⟩ (ChgIn.row hcz hS hg2 hg3 hg4)
            rintro u9 s9 t9 rfl
            refine rg_done rfl (Nat.le_of_ble_eq_true (by kernel_rfl)) ?_
            intro w8 hS hT
            have k8 : HasW 52 wr w8 ⟨.pointer (some ⟨g6, 0, none⟩), s6, t6⟩ [.int .i64 xk, .int .i64 xn] := hT (8, ⟨undef, s8, t8⟩) (by simp)
            have k9 : HasW 52 wr w8 ⟨.pointer (some ⟨g7, 0, none⟩), s7, t7⟩ [.int .i64 yk, .int .i64 yn] := hT (9, ⟨undef, s9, t9⟩) (by simp)
            have u0 : w8.cell? ⟨g6, 0, none⟩ = some (.int .i64 xk) := blk_cell (k8.get rfl).2 0 _ rfl
            have u1 : w8.cell? ⟨g6, 1, none⟩ = some (.int .i64 xn) := blk_cell (k8.get rfl).2 1 _ rfl
            have v0 : w8.cell? ⟨g7, 0, none⟩ = some (.int .i64 yk) := blk_cell (k9.get rfl).2 0 _ rfl
            have v1 : w8.cell? ⟨g7, 1, none⟩ = some (.int .i64 yn) := blk_cell (k9.get rfl).2 1 _ rfl
            have HX8 := Lib.hid (HXQ.out.trans hS)
            obtain ⟨b1, o1, hA1, _, _, _, p2, _⟩ := gs_get (KSQ.out.ext hS).gs HG.out
            obtain ⟨b2, o2, hA2, _, _, _, p3, _⟩ := gs_get (KTQ.out.ext hS).gs HG'.out
            have q1 : w8.cell? ⟨W0, 1, none⟩ = some (.slice (some ⟨b1, o1, none⟩) s.gs.length h.gc) := by rw [← hA1]; exact st1 (hS.blk BSQ.out)
            have q2 : w8.cell? ⟨B8, 1, none⟩ = some (.slice (some ⟨b2, o2, none⟩) s.gs.length ht.gc) := by rw [← hA2, ← HGLN.out]; exact st1 (hS.blk BTQ.out)
            have f1 : (j : Int) + 1 - 1 = (j : Int) := by omega
            have f2 : (j : Int) < (s.gs.length : Int) := by omega
            have f3 : (j : Int) < 100000 := by have := HFG.out; omega
            obtain ⟨gst, hgst⟩ : ∃ gst, g.st = gst := ⟨_, rfl⟩
            obtain ⟨gst', hgst'⟩ : ∃ gst', g'.st = gst' := ⟨_, rfl⟩
            rw [hgst] at p2
            rw [hgst'] at p3
            have HMV2 : Hid (gst = gst' → St.okMove (xk, xn) (yk, yn) = true) := Lib.hid (by rw [← hgst, ← hgst']; exact HMV.out)
            clear k8 k9 hT hS hA1 hA2 hgst hgst'
            go_simp
            by_cases hs : gst = gst'
            · have d1 : (gst == gst') = true := by simpa using hs
              have hmv := HMV2.out hs
              by_cases hxy : (xk, xn) = (yk, yn)
              · have hq : ∀ w, (Op.equalIn 10000 52 (.agg #[.int .i64 xk, .int .i64 xn]) (.agg #[.int .i64 yk, .int .i64 yn])).run Try.prog w = .ok true w := fun w => by rw [run_eqPlace, decide_eq_true (by injection hxy with a b; rw [a, b])]
                clear hs hmv hxy
                go_wp2_with fail
                go_quiet (fail)
                go_wp2
                go_roundw
                case rel => exact ⟨j + 1, by omega, by go_num, HX8.out.drewN _⟩
                case measure => simp [intOf]; omega
              · have hq : ∀ w, (Op.equalIn 10000 52 (.agg #[.int .i64 xk, .int .i64 xn]) (.agg #[.int .i64 yk, .int .i64 yn])).run Try.prog w = .ok false w := fun w => by rw [run_eqPlace, decide_eq_false (fun hc => hxy (by simp only [List.cons.injEq, and_true] at hc; rw [hc.1, hc.2]))]
                simp only [St.okMove, decide_eq_false hxy, Bool.false_or, Bool.or_eq_true, Bool.and_eq_true, decide_eq_true_eq] at hmv
                rcases hmv with ⟨h1, h2⟩ | ⟨h1, h2 | h2⟩
                · subst h1 h2
                  clear hs hxy
                  go_wp2_with fail
                  go_quiet (fail)
                  go_wp2
                  go_roundw
                  case rel => exact ⟨j + 1, by omega, by go_num, HX8.out.drewN _⟩
                  case measure => simp [intOf]; omega
                · subst h1 h2
                  clear hs hxy
                  go_wp2_with fail
                  go_quiet (fail)
                  go_wp2
                  go_roundw
                  case rel => exact ⟨j + 1, by omega, by go_num, HX8.out.drewN _⟩
                  case measure => simp [intOf]; omega
                · subst h1 h2
                  clear hs hxy
                  go_wp2_with fail
                  go_quiet (fail)
                  go_wp2
                  go_roundw
                  case rel => exact ⟨j + 1, by omega, by go_num, HX8.out.drewN _⟩
                  case measure => simp [intOf]; omega
            · have d1 : (gst == gst') = false := by simpa using hs
              clear hs
              go_wp2_with fail
              go_quiet (fail)
              go_wp2
              go_roundw
              case rel => exact ⟨j + 1, by omega, by go_num, HX8.out.drewN _⟩
              case measure => simp [intOf]; omega
          · have e2 : ¬ ((j : Int) + 1 ≤ (s.gs.length : Int)) := by omega
            go_wp2
            go_roundw
            case rel => exact ⟨k + 1, by omega, by go_num, HXN.out.trans HXQ.out⟩
            case measure => simp [intOf]; omega
    · obtain rfl : k = 3 := by omega
      go_wp2
      go_ret
      exact ⟨rfl, HX1.out.trans (HY7.out.trans HX.out)⟩
end Go.Proofs.Ytogcfndhcphpaaa
