/-
  Several texts in one: Sg, Tze, Ls, Si.
-/
import Derived.Test.YtogcfndhcphpaaaK20
import Derived.Test.YtogcfndhcphpaaaK01
import Derived.Deep.Slices
import Derived.Deep.Fields
import Derived.ChangeSame
import Derived.SliceStrings
/-
  The contract of the document's Same, of timers; layer 11's own helper 'fixed': it returns true.
-/
set_option linter.unusedVariables false
set_option linter.unusedSimpArgs false
namespace Go.Proofs.Ytogcfndhcphpaaa
open Go.RowKit

set_option maxRecDepth 100000 in
set_option maxHeartbeats 1000000 in
theorem rsame_any (v u : Value) (xs ys : List (Int × Int)) (w : World) (h : PairsAt w v xs) (k : PairsAt w u ys) (hn : xs.length ≤ 9000) :
    Calls Try.prog 66 #[v, u] w fun e w' => e = .returned (.bool (decide (xs = ys))) ∧ Ext w w' := by
  obtain ⟨A, c, rfl, _, hA⟩ := h
  obtain ⟨B, d, rfl, _, hB⟩ := k
  have HA := Lib.hid hA; clear hA
  have HB := Lib.hid hB; clear hB
  by_cases hl : xs.length = ys.length
  · have hlb : ((xs.length : Int) != (ys.length : Int)) = false := by simp; omega
    have HL := Lib.hid hl; clear hl
    go_enter Try.func66, Try.ntmps66
    go_wp2
    go_loopw [5] (fun i wr => ∃ k : Nat, k ≤ xs.length ∧ i = .int .i64 k ∧ xs.take k = ys.take k ∧ Ext w wr) (fun i _ => xs.length - (intOf i).toNat)
    case atStart => exact ⟨0, by omega, rfl, by simp, Ext.refl _⟩
    case round =>
      obtain ⟨k, hk, rfl, heq, hx⟩ := hrel
      have HE := Lib.hid heq; clear heq
      have HX := Lib.hid hx; clear hx
      by_cases hlt : k < xs.length
      · have hlt2 : k < ys.length := by have := HL.out; omega
        obtain ⟨b, o, rfl, hb, hc⟩ := HA.out (by omega)
        obtain ⟨b2, o2, rfl, hb2, hc2⟩ := HB.out (by omega)
        have HC1 := Lib.hid (hc k _ (List.getElem?_eq_getElem hlt))
        have HC2 := Lib.hid (hc2 k _ (List.getElem?_eq_getElem hlt2))
        have HB1 := Lib.hid hb
        have HB2 := Lib.hid hb2
        have HT : Hid (xs.take (k + 1) = xs.take k ++ [xs[k]] ∧ ys.take (k + 1) = ys.take k ++ [ys[k]]) := Lib.hid ⟨by rw [List.take_succ_eq_append_getElem hlt], by rw [List.take_succ_eq_append_getElem hlt2]⟩
        have HNE : Hid (xs[k] ≠ ys[k] → xs ≠ ys) := Lib.hid (fun hn he => by subst he; exact hn rfl)
        clear hc hc2 hb hb2
        generalize xs[k] = x at *
        generalize ys[k] = y at *
        obtain ⟨x0, x1⟩ := x
        obtain ⟨y0, y1⟩ := y
        simp only at HC1 HC2
        have K0 : ∀ v, Ext w v → v.cell? ⟨b, o + k * 2, none⟩ = some (.int .i64 x0) := fun v hv => by rw [Below.cell hv HB1.out]; exact HC1.out.1
        have K1 : ∀ v, Ext w v → v.cell? ⟨b, o + k * 2 + 1, none⟩ = some (.int .i64 x1) := fun v hv => by rw [Below.cell hv HB1.out]; exact HC1.out.2
        have K2 : ∀ v, Ext w v → v.cell? ⟨b2, o2 + k * 2, none⟩ = some (.int .i64 y0) := fun v hv => by rw [Below.cell hv HB2.out]; exact HC2.out.1
        have K3 : ∀ v, Ext w v → v.cell? ⟨b2, o2 + k * 2 + 1, none⟩ = some (.int .i64 y1) := fun v hv => by rw [Below.cell hv HB2.out]; exact HC2.out.2
        by_cases h0 : x0 = y0
        · by_cases h1 : x1 = y1
          · subst h0 h1
            go_wp2
            refine region_all (fun v => Ext w v) (by kernel_rfl) HX.out.drew ?_
            refine all_take (i := 0) (v := ?_) rfl (by kernel_rfl) (by kernel_rfl) (by kernel_rfl) (fun _ _ _ h => h) (Tame.yes (by kernel_rfl) fun w hS => ?_) ?_
            rotate_left 1
            · skip
              go_simp
              try simp only [beq_self_eq_true, bne_self_eq_false]
              refine gives_mk ?_ hS
              with_reducible rfl
            refine all_take (i := 1) (v := ?_) rfl (by kernel_rfl) (by kernel_rfl) (by kernel_rfl) (fun _ _ _ h => h) (Tame.yes (by kernel_rfl) fun w hS => ?_) ?_
            rotate_left 1
            · skip
              go_simp
              try simp only [beq_self_eq_true, bne_self_eq_false]
              refine gives_mk ?_ hS
              with_reducible rfl
            refine all_take (i := 2) (v := ?_) rfl (by kernel_rfl) (by kernel_rfl) (by kernel_rfl) (fun _ _ _ h => h) (Tame.yes (by kernel_rfl) fun w hS => ?_) ?_
            rotate_left 1
            · skip
              go_simp
              try simp only [beq_self_eq_true, bne_self_eq_false]
              refine gives_mk ?_ hS
              with_reducible rfl
            refine all_take (i := 3) (v := ?_) rfl (by kernel_rfl) (by kernel_rfl) (by kernel_rfl) (fun _ _ _ h => h) (Tame.yes (by kernel_rfl) fun w hS => ?_) ?_
            rotate_left 1
            · skip
              go_simp
              try simp only [beq_self_eq_true, bne_self_eq_false]
              refine gives_mk ?_ hS
              with_reducible rfl
            refine all_take (i := 4) (v := ?_) rfl (by kernel_rfl) (by kernel_rfl) (by kernel_rfl) (fun _ _ _ h => h) (Tame.yes (by kernel_rfl) fun w hS => ?_) ?_
            rotate_left 1
            · skip
              go_simp
              try simp only [beq_self_eq_true, bne_self_eq_false]
              refine gives_mk ?_ hS
              with_reducible rfl
            refine all_take (i := 5) (v := ?_) rfl (by kernel_rfl) (by kernel_rfl) (by kernel_rfl) (fun _ _ _ h => h) (Tame.yes (by kernel_rfl) fun w hS => ?_) ?_
            rotate_left 1
            · skip
              go_simp
              try simp only [beq_self_eq_true, bne_self_eq_false]
              refine gives_mk ?_ hS
              with_reducible rfl
            refine all_take (i := 6) (v := ?_) rfl (by kernel_rfl) (by kernel_rfl) (by kernel_rfl) (fun _ _ _ h => h) (Tame.yes (by kernel_rfl) fun w hS => ?_) ?_
            rotate_left 1
            · skip
              go_simp
              try simp only [beq_self_eq_true, bne_self_eq_false]
              refine gives_mk ?_ hS
              with_reducible rfl
            refine all_take (i := 7) (v := ?_) rfl (by kernel_rfl) (by kernel_rfl) (by kernel_rfl) (fun _ _ _ h => h) (Tame.yes (by kernel_rfl) fun w hS => ?_) ?_
            rotate_left 1
            · skip
              go_simp
              try simp only [beq_self_eq_true, bne_self_eq_false]
              refine gives_mk ?_ hS
              with_reducible rfl
            refine all_take (i := 8) (v := ?_) rfl (by kernel_rfl) (by kernel_rfl) (by kernel_rfl) (fun _ _ _ h => h) (Tame.yes (by kernel_rfl) fun w hS => ?_) ?_
            rotate_left 1
            · skip
              go_simp
              try simp only [beq_self_eq_true, bne_self_eq_false]
              refine gives_mk ?_ hS
              with_reducible rfl
            refine all_done (by kernel_rfl) ?_ _
            intro w2 hx2
            have HX2 := Lib.hid hx2
            clear hx2 K0 K1 K2 K3
            go_simp
            go_wp2
            go_roundw
            case rel => exact ⟨k + 1, by omega, by go_num, by rw [HT.out.1, HT.out.2, HE.out], HX2.out⟩
            case measure => simp [intOf]; omega
          · have hb1 : (x1 == y1) = false := by simpa using h1
            have HNO : Hid (decide (xs = ys) = false) := Lib.hid (decide_eq_false (HNE.out (by simp [h1])))
            subst h0
            clear h1
            go_wp2
            refine region_all (fun v => Ext w v) (by kernel_rfl) HX.out.drew ?_
            refine all_take (i := 0) (v := ?_) rfl (by kernel_rfl) (by kernel_rfl) (by kernel_rfl) (fun _ _ _ h => h) (Tame.yes (by kernel_rfl) fun w hS => ?_) ?_
            rotate_left 1
            · skip
              go_simp
              try simp only [hb1]
              refine gives_mk ?_ hS
              with_reducible rfl
            refine all_take (i := 1) (v := ?_) rfl (by kernel_rfl) (by kernel_rfl) (by kernel_rfl) (fun _ _ _ h => h) (Tame.yes (by kernel_rfl) fun w hS => ?_) ?_
            rotate_left 1
            · skip
              go_simp
              try simp only [hb1]
              refine gives_mk ?_ hS
              with_reducible rfl
            refine all_take (i := 2) (v := ?_) rfl (by kernel_rfl) (by kernel_rfl) (by kernel_rfl) (fun _ _ _ h => h) (Tame.yes (by kernel_rfl) fun w hS => ?_) ?_
            rotate_left 1
            · skip
              go_simp
              try simp only [hb1]
              refine gives_mk ?_ hS
              with_reducible rfl
            refine all_take (i := 3) (v := ?_) rfl (by kernel_rfl) (by kernel_rfl) (by kernel_rfl) (fun _ _ _ h => h) (Tame.yes (by kernel_rfl) fun w hS => ?_) ?_
            rotate_left 1
            · skip
              go_simp
              try simp only [hb1]
              refine gives_mk ?_ hS
              with_reducible rfl
            refine all_take (i := 4) (v := ?_) rfl (by kernel_rfl) (by kernel_rfl) (by kernel_rfl) (fun _ _ _ h => h) (Tame.yes (by kernel_rfl) fun w hS => ?_) ?_
            rotate_left 1
            · skip
              go_simp
              try simp only [hb1]
              refine gives_mk ?_ hS
              with_reducible rfl
            refine all_take (i := 5) (v := ?_) rfl (by kernel_rfl) (by kernel_rfl) (by kernel_rfl) (fun _ _ _ h => h) (Tame.yes (by kernel_rfl) fun w hS => ?_) ?_
            rotate_left 1
            · skip
              go_simp
              try simp only [hb1]
              refine gives_mk ?_ hS
              with_reducible rfl
            refine all_take (i := 6) (v := ?_) rfl (by kernel_rfl) (by kernel_rfl) (by kernel_rfl) (fun _ _ _ h => h) (Tame.yes (by kernel_rfl) fun w hS => ?_) ?_
            rotate_left 1
            · skip
              go_simp
              try simp only [hb1]
              refine gives_mk ?_ hS
              with_reducible rfl
            refine all_take (i := 7) (v := ?_) rfl (by kernel_rfl) (by kernel_rfl) (by kernel_rfl) (fun _ _ _ h => h) (Tame.yes (by kernel_rfl) fun w hS => ?_) ?_
            rotate_left 1
            · skip
              go_simp
              try simp only [hb1]
              refine gives_mk ?_ hS
              with_reducible rfl
            refine all_take (i := 8) (v := ?_) rfl (by kernel_rfl) (by kernel_rfl) (by kernel_rfl) (fun _ _ _ h => h) (Tame.yes (by kernel_rfl) fun w hS => ?_) ?_
            rotate_left 1
            · skip
              go_simp
              try simp only [hb1]
              refine gives_mk ?_ hS
              with_reducible rfl
            clear hb1
            refine all_done (by kernel_rfl) ?_ _
            intro w2 hx2
            have HX2 := Lib.hid hx2
            clear hx2 K0 K1 K2 K3
            go_simp
            go_wp2
            go_ret
            exact ⟨by rw [HNO.out]; rfl, HX2.out⟩
        · have hb0 : (x0 == y0) = false := by simpa using h0
          have HNO : Hid (decide (xs = ys) = false) := Lib.hid (decide_eq_false (HNE.out (by simp [h0])))
          clear h0
          go_wp2
          refine region_all (fun v => Ext w v) (by kernel_rfl) HX.out.drew ?_
          refine all_take (i := 0) (v := ?_) rfl (by kernel_rfl) (by kernel_rfl) (by kernel_rfl) (fun _ _ _ h => h) (Tame.yes (by kernel_rfl) fun w hS => ?_) ?_
          rotate_left 1
          · skip
            go_simp
            try simp only [hb0]
            refine gives_mk ?_ hS
            with_reducible rfl
          refine all_take (i := 1) (v := ?_) rfl (by kernel_rfl) (by kernel_rfl) (by kernel_rfl) (fun _ _ _ h => h) (Tame.yes (by kernel_rfl) fun w hS => ?_) ?_
          rotate_left 1
          · skip
            go_simp
            try simp only [hb0]
            refine gives_mk ?_ hS
            with_reducible rfl
          refine all_take (i := 2) (v := ?_) rfl (by kernel_rfl) (by kernel_rfl) (by kernel_rfl) (fun _ _ _ h => h) (Tame.yes (by kernel_rfl) fun w hS => ?_) ?_
          rotate_left 1
          · skip
            go_simp
            try simp only [hb0]
            refine gives_mk ?_ hS
            with_reducible rfl
          refine all_take (i := 3) (v := ?_) rfl (by kernel_rfl) (by kernel_rfl) (by kernel_rfl) (fun _ _ _ h => h) (Tame.yes (by kernel_rfl) fun w hS => ?_) ?_
          rotate_left 1
          · skip
            go_simp
            try simp only [hb0]
            refine gives_mk ?_ hS
            with_reducible rfl
          refine all_take (i := 4) (v := ?_) rfl (by kernel_rfl) (by kernel_rfl) (by kernel_rfl) (fun _ _ _ h => h) (Tame.yes (by kernel_rfl) fun w hS => ?_) ?_
          rotate_left 1
          · skip
            go_simp
            try simp only [hb0]
            refine gives_mk ?_ hS
            with_reducible rfl
          refine all_take (i := 5) (v := ?_) rfl (by kernel_rfl) (by kernel_rfl) (by kernel_rfl) (fun _ _ _ h => h) (Tame.yes (by kernel_rfl) fun w hS => ?_) ?_
          rotate_left 1
          · skip
            go_simp
            try simp only [hb0]
            refine gives_mk ?_ hS
            with_reducible rfl
          refine all_take (i := 6) (v := ?_) rfl (by kernel_rfl) (by kernel_rfl) (by kernel_rfl) (fun _ _ _ h => h) (Tame.yes (by kernel_rfl) fun w hS => ?_) ?_
          rotate_left 1
          · skip
            go_simp
            try simp only [hb0]
            refine gives_mk ?_ hS
            with_reducible rfl
          refine all_take (i := 7) (v := ?_) rfl (by kernel_rfl) (by kernel_rfl) (by kernel_rfl) (fun _ _ _ h => h) (Tame.yes (by kernel_rfl) fun w hS => ?_) ?_
          rotate_left 1
          · skip
            go_simp
            try simp only [hb0]
            refine gives_mk ?_ hS
            with_reducible rfl
          refine all_take (i := 8) (v := ?_) rfl (by kernel_rfl) (by kernel_rfl) (by kernel_rfl) (fun _ _ _ h => h) (Tame.yes (by kernel_rfl) fun w hS => ?_) ?_
          rotate_left 1
          · skip
            go_simp
            try simp only [hb0]
            refine gives_mk ?_ hS
            with_reducible rfl
          clear hb0
          refine all_done (by kernel_rfl) ?_ _
          intro w2 hx2
          have HX2 := Lib.hid hx2
          clear hx2 K0 K1 K2 K3
          go_simp
          go_wp2
          go_ret
          exact ⟨by rw [HNO.out]; rfl, HX2.out⟩
      · obtain rfl : k = xs.length := by omega
        have HXY : Hid (decide (xs = ys) = true) := Lib.hid (decide_eq_true (by have := HE.out; rwa [List.take_length, HL.out, List.take_length] at this))
        go_wp2
        go_ret
        exact ⟨by rw [HXY.out]; rfl, HX.out⟩
  · have hlb : ((xs.length : Int) != (ys.length : Int)) = true := by simp; omega
    have HL : Hid (decide (xs = ys) = false) := Lib.hid (decide_eq_false fun h => hl (by rw [h])); clear hl
    go_enter Try.func66, Try.ntmps66
    go_wp2
    go_ret
    exact ⟨by rw [HL.out]; rfl, Ext.refl _⟩
theorem rsame_eq (v u : Value) (xs ys : List (Int × Int)) (b : Bool) (hb : decide (xs = ys) = b) (w : World) (h : PairsAt w v xs) (k : PairsAt w u ys) (hn : xs.length ≤ 9000) :
    Calls Try.prog 66 #[v, u] w fun e w' => e = .returned (.bool b) ∧ Ext w w' := by subst hb; exact rsame_any v u xs ys w h k hn
theorem i64_small {l : List (Int × Int)} (h : l.all (fun p => decide (-9223372036854775808 ≤ p.1 ∧ p.1 ≤ 9223372036854775807) && decide (-9223372036854775808 ≤ p.2 ∧ p.2 ≤ 9223372036854775807)) = true) : ∀ p ∈ l, i64ok p.1 ∧ i64ok p.2 := by
  intro p hp
  have := List.all_eq_true.1 h p hp
  simp only [Bool.and_eq_true, decide_eq_true_eq] at this
  exact this
end Go.Proofs.Ytogcfndhcphpaaa
/-
  The document's Same of states.
-/
set_option linter.unusedVariables false
set_option linter.unusedSimpArgs false
namespace Go.Proofs.Ytogcfndhcphpaaa
open Go.RowKit

theorem St.wts_ne {s t : St} {k : Nat} {l m : List Int} (hl : s.wts[k]? = some l) (hm : t.wts[k]? = some m) (h : l ≠ m) : s ≠ t := by
  rintro rfl; rw [hl] at hm; exact h (Option.some.inj hm)
set_option maxRecDepth 100000 in
set_option maxHeartbeats 16000000 in
theorem rstsame_any (h h' : StH) (s s' : St) (r : Bool) (hr : r = true ↔ s = s') (w : World) (hk : StOk w h s) (hk' : StOk w h' s') (hf : StFew s) (ht : s.timers.length ≤ 9000) : Calls Try.prog 24 #[stV h s, stV h' s'] w fun e w' => e = .returned (.bool r) ∧ Ext w w' := by
  have FW := Lib.hid hf.w
  have FP := Lib.hid hf.prog
  have FG := Lib.hid hf.gs
  have FL := Lib.hid hf.glob
  have FT := Lib.hid ht
  have HFW := Lib.hid hf
  have HR := Lib.hid hr
  have HNO : Hid (s ≠ s' → r = false) := Lib.hid fun h => by
    cases r with
    | false => rfl
    | true => exact absurd (hr.1 rfl) h
  clear hf hr ht
  have HK := Lib.hid hk
  obtain ⟨w2, hw2⟩ : ∃ w2, (w.alloc (.cells #[.slice h.pa s.prog.length h.pc, .slice h.ga s.gs.length h.gc, .slice h.qa s.ps.length h.qc, .slice h.ma s.ms.length h.mc, .slice h.la s.glob.length h.lc, .int .i64 s.c0, .int .i64 s.c1, .int .i64 s.c2, .int .i64 s.c3, .slice h.a0 s.w0.length h.k0, .slice h.a1 s.w1.length h.k1, .slice h.a2 s.w2.length h.k2, .slice h.a3 s.w3.length h.k3, .slice h.ta s.timers.length h.tc, .int .i64 s.clock, .int .i64 s.procs] 32)).alloc (.cells #[.slice h'.pa s'.prog.length h'.pc, .slice h'.ga s'.gs.length h'.gc, .slice h'.qa s'.ps.length h'.qc, .slice h'.ma s'.ms.length h'.mc, .slice h'.la s'.glob.length h'.lc, .int .i64 s'.c0, .int .i64 s'.c1, .int .i64 s'.c2, .int .i64 s'.c3, .slice h'.a0 s'.w0.length h'.k0, .slice h'.a1 s'.w1.length h'.k1, .slice h'.a2 s'.w2.length h'.k2, .slice h'.a3 s'.w3.length h'.k3, .slice h'.ta s'.timers.length h'.tc, .int .i64 s'.clock, .int .i64 s'.procs] 32) = w2 := ⟨_, rfl⟩
  obtain ⟨B, hB⟩ : ∃ B, w.heap.size + 1 = B := ⟨_, rfl⟩
  have hx2 : Ext w w2 := by rw [← hw2]; exact ((Ext.refl w).alloc _).alloc _
  have HBA : Hid (w2.heap[w.heap.size]? = some (.cells (stC h s) 32 (0, 0))) := Lib.hid (by rw [← hw2]; exact blk_alloc (blk_new w _) _)
  have HBB : Hid (w2.heap[B]? = some (.cells (stC h' s') 32 (0, 0))) := Lib.hid (by
    have := blk_new (w.alloc (.cells #[.slice h.pa s.prog.length h.pc, .slice h.ga s.gs.length h.gc, .slice h.qa s.ps.length h.qc, .slice h.ma s.ms.length h.mc, .slice h.la s.glob.length h.lc, .int .i64 s.c0, .int .i64 s.c1, .int .i64 s.c2, .int .i64 s.c3, .slice h.a0 s.w0.length h.k0, .slice h.a1 s.w1.length h.k1, .slice h.a2 s.w2.length h.k2, .slice h.a3 s.w3.length h.k3, .slice h.ta s.timers.length h.tc, .int .i64 s.clock, .int .i64 s.procs] 32)) (.cells #[.slice h'.pa s'.prog.length h'.pc, .slice h'.ga s'.gs.length h'.gc, .slice h'.qa s'.ps.length h'.qc, .slice h'.ma s'.ms.length h'.mc, .slice h'.la s'.glob.length h'.lc, .int .i64 s'.c0, .int .i64 s'.c1, .int .i64 s'.c2, .int .i64 s'.c3, .slice h'.a0 s'.w0.length h'.k0, .slice h'.a1 s'.w1.length h'.k1, .slice h'.a2 s'.w2.length h'.k2, .slice h'.a3 s'.w3.length h'.k3, .slice h'.ta s'.timers.length h'.tc, .int .i64 s'.clock, .int .i64 s'.procs] 32)
    rw [hw2, World.size_alloc, hB] at this
    exact this)
  have HX2 := Lib.hid hx2
  have HB := Lib.hid hB
  have HKA := Lib.hid (hk.ext hx2)
  have HKB := Lib.hid (hk'.ext hx2)
  have HW2 := Lib.hid hw2
  clear hw2 hx2 hB hk hk'
  obtain ⟨W0, hW0⟩ : ∃ W0, w.heap.size = W0 := ⟨_, rfl⟩
  rw [hW0] at HBA
  have HW0 := Lib.hid hW0
  clear hW0
  unfold stV
  go_enter Try.func24, Try.ntmps24
  go_upto_region 1 with fail
  rw [HW2.out, HB.out]
  generalize Value.agg #[.slice h.pa s.prog.length h.pc, .slice h.ga s.gs.length h.gc, .slice h.qa s.ps.length h.qc, .slice h.ma s.ms.length h.mc, .slice h.la s.glob.length h.lc, .int .i64 s.c0, .int .i64 s.c1, .int .i64 s.c2, .int .i64 s.c3, .slice h.a0 s.w0.length h.k0, .slice h.a1 s.w1.length h.k1, .slice h.a2 s.w2.length h.k2, .slice h.a3 s.w3.length h.k3, .slice h.ta s.timers.length h.tc, .int .i64 s.clock, .int .i64 s.procs] = sv0
  generalize Value.agg #[.slice h'.pa s'.prog.length h'.pc, .slice h'.ga s'.gs.length h'.gc, .slice h'.qa s'.ps.length h'.qc, .slice h'.ma s'.ms.length h'.mc, .slice h'.la s'.glob.length h'.lc, .int .i64 s'.c0, .int .i64 s'.c1, .int .i64 s'.c2, .int .i64 s'.c3, .slice h'.a0 s'.w0.length h'.k0, .slice h'.a1 s'.w1.length h'.k1, .slice h'.a2 s'.w2.length h'.k2, .slice h'.a3 s'.w3.length h'.k3, .slice h'.ta s'.timers.length h'.tc, .int .i64 s'.clock, .int .i64 s'.procs] = sv1
  rw [HW0.out]
  go_wp2_with fail
  go_loopw [5] (fun iv wr => ∃ k : Nat, k ≤ 4 ∧ iv = .int .i64 k ∧ s.wts.take k = s'.wts.take k ∧ Ext w2 wr) (fun iv _ => 4 - (intOf iv).toNat)
  case atStart => exact ⟨0, by omega, rfl, rfl, Ext.refl _⟩
  case round =>
    obtain ⟨k, hk, rfl, heq, hx⟩ := hrel
    have HX := Lib.hid hx
    have HEQ := Lib.hid heq
    clear hx heq
    by_cases hlt : k < 4
    · obtain ⟨A0, d0, l, hcell, hI, hl⟩ := HKA.out.wait hlt
      obtain ⟨A1, d1, m, hcell', hI', hm⟩ := HKB.out.wait hlt
      have HCA : Hid (∀ v, Ext wr v → v.cell? ⟨W0, 9 + k, none⟩ = some (.slice A0 l.length d0)) := Lib.hid fun v hv => blk_cell ((HX.out.trans hv).blk HBA.out) (9 + k) _ hcell
      have HCB : Hid (∀ v, Ext wr v → v.cell? ⟨B, 9 + k, none⟩ = some (.slice A1 m.length d1)) := Lib.hid fun v hv => blk_cell ((HX.out.trans hv).blk HBB.out) (9 + k) _ hcell'
      have HIA : Hid (∀ v, Ext wr v → IntsAt v (.slice A0 l.length d0) l) := Lib.hid fun v hv => hI.ext (HX.out.trans hv)
      have HIB : Hid (∀ v, Ext wr v → IntsAt v (.slice A1 m.length d1) m) := Lib.hid fun v hv => hI'.ext (HX.out.trans hv)
      have HL := Lib.hid (wts_few FW.out hl)
      have HN0 : Hid (l ≠ m → r = false) := Lib.hid fun hne => HNO.out (St.wts_ne hl hm hne)
      have HY0 : Hid (l = m → s.wts.take (k + 1) = s'.wts.take (k + 1)) := Lib.hid fun he => take_eq_next HEQ.out hl (by rw [he]; exact hm)
      have i0 : (0 : Int) ≤ (k : Int) := by omega
      have i1 : (k : Int) < 4 := by omega
      obtain ⟨bi, hbi⟩ : ∃ bi, decide (l = m) = bi := ⟨_, rfl⟩
      have HBI := Lib.hid hbi
      clear hcell hcell' hI hI' hl hm hbi
      go_wp2
      refine region_rgx ([(8, (fun u => u = .bool bi : Value → Prop), (fun _ _ => True : (Nat → GV) → World → Prop))]) (wr) (by kernel_rfl) (by kernel_rfl) ?_ ?_ ?_
      · exact List.forall_mem_cons.2 ⟨⟨⟨_, rfl⟩, fun _ _ _ _ _ => trivial, fun _ _ _ _ _ => trivial⟩, List.forall_mem_nil _⟩
      · first | assumption | exact Ext.refl _
      refine rg_pure (v := ?_) rfl (by kernel_rfl) (by kernel_rfl) (fun w hS hN => ?_) ?_
      rotate_left 1
      · clear hN
        go_simp
        refine givesP_mk ?_
        with_reducible rfl
      refine rg_pure (v := ?_) rfl (by kernel_rfl) (by kernel_rfl) (fun w hS hN => ?_) ?_
      rotate_left 1
      · clear hN
        go_simp
        refine givesP_mk ?_
        with_reducible rfl
      refine rg_pure (v := ?_) rfl (by kernel_rfl) (by kernel_rfl) (fun w hS hN => ?_) ?_
      rotate_left 1
      · clear hN
        go_simp
        refine givesP_mk ?_
        with_reducible rfl
      refine rg_pure (v := ?_) rfl (by kernel_rfl) (by kernel_rfl) (fun w hS hN => ?_) ?_
      rotate_left 1
      · have k1 := HCA.out w hS
        clear hN
        go_simp
        refine givesP_mk ?_
        with_reducible rfl
      refine rg_pure (v := ?_) rfl (by kernel_rfl) (by kernel_rfl) (fun w hS hN => ?_) ?_
      rotate_left 1
      · clear hN
        go_simp
        refine givesP_mk ?_
        with_reducible rfl
      refine rg_pure (v := ?_) rfl (by kernel_rfl) (by kernel_rfl) (fun w hS hN => ?_) ?_
      rotate_left 1
      · clear hN
        go_simp
        refine givesP_mk ?_
        with_reducible rfl
      refine rg_pure (v := ?_) rfl (by kernel_rfl) (by kernel_rfl) (fun w hS hN => ?_) ?_
      rotate_left 1
      · clear hN
        go_simp
        refine givesP_mk ?_
        with_reducible rfl
      refine rg_pure (v := ?_) rfl (by kernel_rfl) (by kernel_rfl) (fun w hS hN => ?_) ?_
      rotate_left 1
      · have k2 := HCB.out w hS
        clear hN
        go_simp
        refine givesP_mk ?_
        with_reducible rfl
      refine rg_mem (fun u => u = .bool bi : Value → Prop) (fun _ _ => True : (Nat → GV) → World → Prop) (fun _ => Ext) rfl rfl rfl rfl (by kernel_rfl) (by kernel_rfl) (fun w hS hN R hR => ?_) ?_
      · have HR := Lib.hid hR
        clear hR
        (try clear hN)
        go_simp
        refine givesM_call ((rints_eq _ _ l m bi HBI.out w (HIA.out w hS) (HIB.out w hS) (by have := HL.out; omega)).mono ?_)
        rintro e w' ⟨rfl, hx⟩
        exact ⟨_, rfl, HR.out _ _ rfl trivial hx⟩
      rintro u8 s8 t8 rfl
      refine rg_pure (v := ?_) rfl (by kernel_rfl) (by kernel_rfl) (fun w hS hN => ?_) ?_
      rotate_left 1
      · clear hN
        go_simp
        refine givesP_mk ?_
        with_reducible rfl
      refine rg_done rfl (Nat.le_of_ble_eq_true (by kernel_rfl)) ?_
      intro w8 hS hT
      have HX8 := Lib.hid (HX.out.trans hS)
      clear hT hS i1
      cases bi with
      | false =>
        have HN := Lib.hid (HN0.out (of_decide_eq_false HBI.out))
        have HXC := HX8
        go_simp
        go_wp2
        (go_ret; exact ⟨by rw [HN.out] <;> rfl, HX2.out.trans HXC.out⟩)
      | true =>
        have HN2 := Lib.hid (HY0.out (of_decide_eq_true HBI.out))
        go_simp
        go_wp2
        go_roundw
        case rel => exact ⟨k + 1, by omega, by go_num, HN2.out, HX8.out⟩
        case measure => simp [intOf]; omega
    · have HWE : Hid (s.wts = s'.wts) := Lib.hid (by
        have := HEQ.out
        rwa [List.take_of_length_le (by simp [St.wts]; omega), List.take_of_length_le (by simp [St.wts]; omega)] at this)
      clear HEQ
      have a0 := st0 (HX.out.blk HBA.out)
      have b0 := st0 (HX.out.blk HBB.out)
      obtain ⟨bi, hbi⟩ : ∃ bi : Bool, bi = true ↔ s.prog = s'.prog := by
        by_cases hd : s.prog = s'.prog
        · exact ⟨true, by simp [hd]⟩
        · exact ⟨false, by simp [hd]⟩
      have HBI := Lib.hid hbi
      clear hbi
      go_wp2_with (first | refine wpList_load_rowW rfl 32 _ rfl W0 rfl (stL h s) (stV h s) rfl _ (range_row HLA.out) Try.underlying32 rfl (by kernel_rfl) ?_ | refine wpList_load_rowW rfl 32 _ rfl B rfl (stL h' s') (stV h' s') rfl _ (range_row HLB.out) Try.underlying32 rfl (by kernel_rfl) ?_)
      refine (rpsame_any _ _ _ _ s.prog s'.prog bi HBI.out _ (HKA.out.ext HX.out).prog (HKB.out.ext HX.out).prog (by have := FP.out.1; omega) (fun l hl => by have := FP.out.2 l hl; omega)).mono ?_
      rintro e w5 ⟨rfl, hx5⟩
      have HX5 := Lib.hid (HX.out.trans hx5)
      clear HX hx5
      have HX := Lib.hid HX5.out
      clear HX5
      clear a0 b0
      cases bi with
      | false =>
        have HN := Lib.hid (HNO.out fun he => absurd (HBI.out.2 (by rw [he])) (by simp))
        have HXC := HX
        go_wp2
        (go_ret; exact ⟨by rw [HN.out] <;> rfl, HX2.out.trans HXC.out⟩)
      | true =>
      have E1 : Hid (s.prog = s'.prog) := Lib.hid (HBI.out.1 rfl)
      clear HBI
      have a1 := st1 (HX.out.blk HBA.out)
      have b1 := st1 (HX.out.blk HBB.out)
      obtain ⟨bi, hbi⟩ : ∃ bi : Bool, bi = true ↔ s.gs = s'.gs := by
        by_cases hd : s.gs = s'.gs
        · exact ⟨true, by simp [hd]⟩
        · exact ⟨false, by simp [hd]⟩
      have HBI := Lib.hid hbi
      clear hbi
      go_wp2_with (first | refine wpList_load_rowW rfl 32 _ rfl W0 rfl (stL h s) (stV h s) rfl _ (range_row HLA.out) Try.underlying32 rfl (by kernel_rfl) ?_ | refine wpList_load_rowW rfl 32 _ rfl B rfl (stL h' s') (stV h' s') rfl _ (range_row HLB.out) Try.underlying32 rfl (by kernel_rfl) ?_)
      refine (rgs_any _ _ _ _ s.gs s'.gs bi HBI.out _ (HKA.out.ext HX.out).gs (HKB.out.ext HX.out).gs (by have := FG.out; omega)).mono ?_
      rintro e w5 ⟨rfl, hx5⟩
      have HX5 := Lib.hid (HX.out.trans hx5)
      clear HX hx5
      have HX := Lib.hid HX5.out
      clear HX5
      clear a1 b1
      cases bi with
      | false =>
        have HN := Lib.hid (HNO.out fun he => absurd (HBI.out.2 (by rw [he])) (by simp))
        have HXC := HX
        go_wp2
        (go_ret; exact ⟨by rw [HN.out] <;> rfl, HX2.out.trans HXC.out⟩)
      | true =>
      have E2 : Hid (s.gs = s'.gs) := Lib.hid (HBI.out.1 rfl)
      clear HBI
      have HLA := Lib.hid (HX.out.blk HBA.out)
      have HLB := Lib.hid (HX.out.blk HBB.out)
      obtain ⟨bi, hbi⟩ : ∃ bi : Bool, bi = true ↔ s.ps = s'.ps ∧ s.ms = s'.ms := by
        by_cases hd : s.ps = s'.ps ∧ s.ms = s'.ms
        · exact ⟨true, by simp [hd]⟩
        · exact ⟨false, by simp [hd]⟩
      have HBI := Lib.hid hbi
      clear hbi
      go_wp2_with (first | refine wpList_load_rowW rfl 32 _ rfl W0 rfl (stL h s) (stV h s) rfl _ (range_row HLA.out) Try.underlying32 rfl (by kernel_rfl) ?_ | refine wpList_load_rowW rfl 32 _ rfl B rfl (stL h' s') (stV h' s') rfl _ (range_row HLB.out) Try.underlying32 rfl (by kernel_rfl) ?_)
      refine (rps_any h h' s s' bi HBI.out _ (HKA.out.ext HX.out) (HKB.out.ext HX.out) HFW.out).mono ?_
      rintro e w5 ⟨rfl, hx5⟩
      have HX5 := Lib.hid (HX.out.trans hx5)
      clear HX hx5
      have HX := Lib.hid HX5.out
      clear HX5
      clear HLA HLB
      cases bi with
      | false =>
        have HN := Lib.hid (HNO.out fun he => absurd (HBI.out.2 (by rw [he]; exact ⟨rfl, rfl⟩)) (by simp))
        have HXC := HX
        go_wp2
        (go_ret; exact ⟨by rw [HN.out] <;> rfl, HX2.out.trans HXC.out⟩)
      | true =>
      have E3 : Hid (s.ps = s'.ps ∧ s.ms = s'.ms) := Lib.hid (HBI.out.1 rfl)
      clear HBI
      have a4 := st4 (HX.out.blk HBA.out)
      have b4 := st4 (HX.out.blk HBB.out)
      obtain ⟨bi, hbi⟩ : ∃ bi : Bool, bi = true ↔ s.glob = s'.glob := by
        by_cases hd : s.glob = s'.glob
        · exact ⟨true, by simp [hd]⟩
        · exact ⟨false, by simp [hd]⟩
      have HBI := Lib.hid hbi
      clear hbi
      go_wp2_with (first | refine wpList_load_rowW rfl 32 _ rfl W0 rfl (stL h s) (stV h s) rfl _ (range_row HLA.out) Try.underlying32 rfl (by kernel_rfl) ?_ | refine wpList_load_rowW rfl 32 _ rfl B rfl (stL h' s') (stV h' s') rfl _ (range_row HLB.out) Try.underlying32 rfl (by kernel_rfl) ?_)
      refine (rints_eq _ _ s.glob s'.glob bi (by have := HBI.out; cases bi <;> simp_all) _ (HKA.out.ext HX.out).glob (HKB.out.ext HX.out).glob (by have := FL.out; omega)).mono ?_
      rintro e w5 ⟨rfl, hx5⟩
      have HX5 := Lib.hid (HX.out.trans hx5)
      clear HX hx5
      have HX := Lib.hid HX5.out
      clear HX5
      clear a4 b4
      cases bi with
      | false =>
        have HN := Lib.hid (HNO.out fun he => absurd (HBI.out.2 (by rw [he])) (by simp))
        have HXC := HX
        go_wp2
        (go_ret; exact ⟨by rw [HN.out] <;> rfl, HX2.out.trans HXC.out⟩)
      | true =>
      have E4 : Hid (s.glob = s'.glob) := Lib.hid (HBI.out.1 rfl)
      clear HBI
      have a5 := st5 (HX.out.blk HBA.out)
      have b5 := st5 (HX.out.blk HBB.out)
      have a6 := st6 (HX.out.blk HBA.out)
      have b6 := st6 (HX.out.blk HBB.out)
      have a7 := st7 (HX.out.blk HBA.out)
      have b7 := st7 (HX.out.blk HBB.out)
      have a8 := st8 (HX.out.blk HBA.out)
      have b8 := st8 (HX.out.blk HBB.out)
      by_cases hcc : [s.c0, s.c1, s.c2, s.c3] = [s'.c0, s'.c1, s'.c2, s'.c3]
      rotate_left 1
      · have hq : ∀ w, (Op.equalIn 10000 28 (.agg #[.int .i64 s.c0, .int .i64 s.c1, .int .i64 s.c2, .int .i64 s.c3]) (.agg #[.int .i64 s'.c0, .int .i64 s'.c1, .int .i64 s'.c2, .int .i64 s'.c3])).run Try.prog w = .ok false w := fun w => by rw [run_eq4, decide_eq_false hcc]
        have HN := Lib.hid (HNO.out fun he => hcc (by rw [he]))
        have HXC := HX
        clear hcc
        go_wp2
        (go_ret; exact ⟨by rw [HN.out] <;> rfl, HX2.out.trans HXC.out⟩)
      have hq : ∀ w, (Op.equalIn 10000 28 (.agg #[.int .i64 s.c0, .int .i64 s.c1, .int .i64 s.c2, .int .i64 s.c3]) (.agg #[.int .i64 s'.c0, .int .i64 s'.c1, .int .i64 s'.c2, .int .i64 s'.c3])).run Try.prog w = .ok true w := fun w => by rw [run_eq4, decide_eq_true hcc]
      have E5 : Hid (s.cnts = s'.cnts) := Lib.hid hcc
      clear hcc
      have a13 := st13 (HX.out.blk HBA.out)
      have b13 := st13 (HX.out.blk HBB.out)
      obtain ⟨bi, hbi⟩ : ∃ bi : Bool, bi = true ↔ s.timers = s'.timers := by
        by_cases hd : s.timers = s'.timers
        · exact ⟨true, by simp [hd]⟩
        · exact ⟨false, by simp [hd]⟩
      have HBI := Lib.hid hbi
      clear hbi
      go_wp2_with (first | refine wpList_load_rowW rfl 32 _ rfl W0 rfl (stL h s) (stV h s) rfl _ (range_row HLA.out) Try.underlying32 rfl (by kernel_rfl) ?_ | refine wpList_load_rowW rfl 32 _ rfl B rfl (stL h' s') (stV h' s') rfl _ (range_row HLB.out) Try.underlying32 rfl (by kernel_rfl) ?_)
      refine (rsame_eq _ _ s.timers s'.timers bi (by have := HBI.out; cases bi <;> simp_all) _ (HKA.out.ext HX.out).timers (HKB.out.ext HX.out).timers (by have := FT.out; omega)).mono ?_
      rintro e w5 ⟨rfl, hx5⟩
      have HX5 := Lib.hid (HX.out.trans hx5)
      clear HX hx5
      have HX := Lib.hid HX5.out
      clear HX5
      clear a13 b13
      clear hq a5 a6 a7 a8 b5 b6 b7 b8
      cases bi with
      | false =>
        have HN := Lib.hid (HNO.out fun he => absurd (HBI.out.2 (by rw [he])) (by simp))
        have HXC := HX
        go_wp2
        (go_ret; exact ⟨by rw [HN.out] <;> rfl, HX2.out.trans HXC.out⟩)
      | true =>
      have E6 : Hid (s.timers = s'.timers) := Lib.hid (HBI.out.1 rfl)
      clear HBI
      have a14 := st14 (HX.out.blk HBA.out)
      have b14 := st14 (HX.out.blk HBB.out)
      have a15 := st15 (HX.out.blk HBA.out)
      have b15 := st15 (HX.out.blk HBB.out)
      by_cases hcl : s.clock = s'.clock
      rotate_left 1
      · have hcl' : (s.clock == s'.clock) = false := by simpa using hcl
        have HN := Lib.hid (HNO.out fun he => hcl (by rw [he]))
        have HXC := HX
        clear hcl
        go_wp2
        (go_ret; exact ⟨by rw [HN.out] <;> rfl, HX2.out.trans HXC.out⟩)
      have hcl' : (s.clock == s'.clock) = true := by simpa using hcl
      have E7 := Lib.hid hcl
      clear hcl
      by_cases hpr : s.procs = s'.procs
      rotate_left 1
      · have hpr' : (s.procs == s'.procs) = false := by simpa using hpr
        have HN := Lib.hid (HNO.out fun he => hpr (by rw [he]))
        have HXC := HX
        clear hpr
        go_wp2
        (go_ret; exact ⟨by rw [HN.out] <;> rfl, HX2.out.trans HXC.out⟩)
      have hpr' : (s.procs == s'.procs) = true := by simpa using hpr
      have HN : Hid (r = true) := Lib.hid (HR.out.2 ((St.same_iff s s').2 ⟨E1.out, E2.out, E3.out.1, E3.out.2, E4.out, E5.out, HWE.out, E6.out, E7.out, hpr⟩))
      have HXC := HX
      clear hpr
      go_wp2
      (go_ret; exact ⟨by rw [HN.out] <;> rfl, HX2.out.trans HXC.out⟩)
end Go.Proofs.Ytogcfndhcphpaaa
/-
  Arguments that are slices of structs, opened to cells.
-/
set_option linter.unusedVariables false
set_option linter.unusedSimpArgs false
namespace Go.Proofs.Ytogcfndhcphpaaa
open Go.ChangeShapes Go.WideShapes Go.Deep Go.RowKit
section
variable {H : Type} {enc : TypeId × Value → H} {P : Program} {w : World} {base : Nat} {spare : Nat → Bool} {held : Bool}
theorem open_slice_fields {t e : TypeId} {fs : Array Field} {fuel : Nat} {cs : List Value} {x : DataW H × List MemPlace} (ht : P.underlying t = some (.slice e)) (he : P.underlying e = some (.struct fs))
    (hone : oneCellFields P fs = true) (hC : P.cellsOf e = fs.size) (h : DataW.trod enc P w base spare held fuel t cs = some x) :
    (cs = [.slice none 0 0] ∧ x = (.nil, [])) ∨
    ∃ (a : Addr) (len cap m : Nat) (D : Nat → DataW H) (Pl : Nat → List MemPlace), cs = [.slice (some a) len cap] ∧ base ≤ a.block ∧ len ≤ cap ∧ cap ≤ maxLen ∧ m = (if spare a.block then cap else len) ∧
      x = (.slice ((List.range len).map D) ((List.range (m - len)).map fun j => D (len + j)), MemPlace.row a (m * fs.size) ++ (List.range m).flatMap Pl) ∧
      ∀ i, i < m → ∃ (ys : List (DataW H × List MemPlace)) (n : Nat), D i = .agg (ys.map (·.1)) ∧ Pl i = ys.flatMap (·.2) ∧ ys.length = fs.size ∧
        ∀ (j : Nat) (f : Field), fs[j]? = some f → ∃ (v : Value) (y : DataW H × List MemPlace), w.cell? (a.add (i * fs.size + j)) = some v ∧ ys[j]? = some y ∧ DataW.trod enc P w base spare held n f.type [v] = some y := by
  rcases open_slice ht h with h0 | ⟨a, len, cap, m, n, D, Pl, hcs, hb, hl, hm, hmm, hx, hi⟩
  · exact .inl h0
  · refine .inr ⟨a, len, cap, m, D, Pl, hcs, hb, hl, hm, hmm, by rw [hC] at hx; exact hx, fun i him => ?_⟩
    obtain ⟨cs', hc, ht'⟩ := hi i him
    rw [hC] at hc
    obtain ⟨ys, n', hn', hy, hlen, hyl, hf⟩ := DataW.trod_struct he ht'
    obtain ⟨_, hcl, hat⟩ := World.cells?_some hc
    simp only [Prod.mk.injEq] at hy
    refine ⟨ys, n', hy.1, hy.2, hyl, fun j f hj => ?_⟩
    obtain ⟨ho, hk⟩ := hone_of hone j f hj
    have hjl : j < fs.size := (Array.getElem?_eq_some_iff.1 hj).1
    have hcell := hat j hjl
    have hv : cs'[j]? = some (cs'[j]'(by omega)) := List.getElem?_eq_getElem (by omega)
    have h1 := hf j f hj
    rw [ho, hk] at h1
    have hone' : (cs'.drop j).take 1 = [cs'[j]'(by omega)] := by
      rw [List.drop_eq_getElem_cons (by omega)]
      rfl
    rw [hone'] at h1
    have hys : ys[j]? = some (ys[j]'(by omega)) := List.getElem?_eq_getElem (by omega)
    refine ⟨_, _, ?_, hys, h1.trans hys⟩
    rw [← Go.Deep.add_add, hcell, hv]

/-- The number in a cell. -/
def numIn : Option Value → Int
  | some (.int _ n) => n
  | _ => 0

theorem open_pairs {t e : TypeId} {f0 f1 : Field} {fuel len cap : Nat} {A : Option Addr} {x : DataW H × List MemPlace} (ht : P.underlying t = some (.slice e)) (he : P.underlying e = some (.struct #[f0, f1]))
    (hone : oneCellFields P #[f0, f1] = true) (hC : P.cellsOf e = 2) (t0 : P.underlying f0.type = some (.int .i64)) (t1 : P.underlying f1.type = some (.int .i64))
    (h : DataW.trod enc P w base (fun _ => true) held fuel t [.slice A len cap] = some x) :
    len ≤ maxLen ∧ ∃ f : Nat → Int × Int, 0 < len → ∃ b o, A = some ⟨b, o, none⟩ ∧ b < w.heap.size ∧ ∀ j, j < len → w.cell? ⟨b, o + j * 2, none⟩ = some (.int .i64 (f j).1) ∧ w.cell? ⟨b, o + j * 2 + 1, none⟩ = some (.int .i64 (f j).2) ∧
      (-9223372036854775808 ≤ (f j).1 ∧ (f j).1 ≤ 9223372036854775807) ∧ -9223372036854775808 ≤ (f j).2 ∧ (f j).2 ≤ 9223372036854775807 := by
  rcases open_slice_fields ht he hone hC h with ⟨h0, _⟩ | ⟨a, l, c, m, D, Pl, hcs, _, hl, hm, hmm, _, hi⟩
  · simp at h0
    obtain ⟨rfl, rfl, rfl⟩ := h0
    exact ⟨by simp [maxLen], fun _ => (0, 0), fun h => by omega⟩
  · simp at hcs
    obtain ⟨rfl, rfl, rfl⟩ := hcs
    have hmc : m = cap := by simpa using hmm
    subst hmc
    refine ⟨by omega, fun j => (numIn (w.cell? (a.add (j * 2))), numIn (w.cell? (a.add (j * 2 + 1)))), fun hpos => ?_⟩
    have key : ∀ j, j < len → (∃ n, w.cell? (a.add (j * 2)) = some (.int .i64 n) ∧ -9223372036854775808 ≤ n ∧ n ≤ 9223372036854775807) ∧ (∃ n, w.cell? (a.add (j * 2 + 1)) = some (.int .i64 n) ∧ -9223372036854775808 ≤ n ∧ n ≤ 9223372036854775807) := fun j hj => by
      obtain ⟨ys, n, _, _, _, hf⟩ := hi j (by omega)
      obtain ⟨v0, y0, c0, _, h0⟩ := hf 0 f0 rfl
      obtain ⟨v1, y1, c1, _, h1⟩ := hf 1 f1 rfl
      obtain ⟨n0, e0, _, w0⟩ := DataW.trod_int t0 h0
      obtain ⟨n1, e1, _, w1⟩ := DataW.trod_int t1 h1
      simp at e0 e1
      subst e0 e1
      exact ⟨⟨n0, by simpa using c0, bounds_i64 w0⟩, ⟨n1, by simpa using c1, bounds_i64 w1⟩⟩
    obtain ⟨b, o, spot⟩ := a
    have hspot : spot = none := by
      obtain ⟨⟨n, hn, _⟩, _⟩ := key 0 hpos
      simpa [Addr.add] using World.cell?_spot hn
    subst hspot
    refine ⟨b, o, rfl, ?_, fun j hj => ?_⟩
    · obtain ⟨⟨n, hn, _⟩, _⟩ := key 0 hpos
      rw [Addr.add_lit] at hn
      exact block_lt_of_cell hn
    · obtain ⟨⟨n, hn, b0, b1⟩, ⟨m, hm, d0, d1⟩⟩ := key j hj
      rw [Addr.add_lit] at hn hm
      rw [← Nat.add_assoc] at hm
      simp only [Addr.add_lit, ← Nat.add_assoc]
      rw [hn, hm]
      exact ⟨rfl, rfl, ⟨b0, b1⟩, d0, d1⟩
theorem open_texts {t e : TypeId} {fuel len cap : Nat} {A : Option Addr} {x : DataW H × List MemPlace} (ht : P.underlying t = some (.slice e)) (he : P.underlying e = some .string) (hC : P.cellsOf e = 1)
    (h : DataW.trod enc P w base (fun _ => true) held fuel t [.slice A len cap] = some x) :
    len ≤ maxLen ∧ ∃ ts : List ByteArray, ts.length = len ∧ (0 < len → ∃ b o, A = some ⟨b, o, none⟩ ∧ b < w.heap.size ∧ ∀ j t, ts[j]? = some t → w.cell? ⟨b, o + j, none⟩ = some (.string t)) := by
  rcases open_strings ht he hC h with ⟨h0, _⟩ | ⟨a, l, c, ss, hcs, _, hl, hm, hss, _, hc, hsz⟩
  · simp at h0
    obtain ⟨rfl, rfl, rfl⟩ := h0
    exact ⟨by simp [maxLen], [], rfl, fun h => by omega⟩
  · simp at hcs
    obtain ⟨rfl, rfl, rfl⟩ := hcs
    have hlen : ss.length = cap := by simpa using hss
    refine ⟨by omega, ss.take len, by rw [List.length_take]; omega, fun hpos => ?_⟩
    obtain ⟨b, o, spot⟩ := a
    have hspot : spot = none := by simpa [Addr.add] using World.cell?_spot (hc 0 (by omega))
    subst hspot
    have hc' : ∀ j, j < ss.length → w.cell? ⟨b, o + j, none⟩ = some (.string (ss.getD j ByteArray.empty)) := fun j hj => by
      have := hc j hj; rwa [Addr.add_lit] at this
    refine ⟨b, o, rfl, block_lt_of_cell (hc' 0 (by omega)), fun j t hj => ?_⟩
    rw [List.getElem?_take] at hj
    split at hj
    · rw [hc' j (by omega), List.getD, hj]
      rfl
    · simp at hj
end
end Go.Proofs.Ytogcfndhcphpaaa
/-
  Arguments that are slices of timers, opened; the walk of the statement SleepNext.
-/
set_option linter.unusedVariables false
set_option linter.unusedSimpArgs false
namespace Go.Proofs.Ytogcfndhcphpaaa
open Go.RowKit

open Go.ChangeShapes Go.WideShapes Go.Deep in
theorem open_timers {H : Type} {enc : TypeId × Value → H} {P : Program} {w : World} {base : Nat} {held : Bool} {t e : TypeId} {f0 f1 : Field} {fuel len cap : Nat} {A : Option Addr} {x : DataW H × List MemPlace} (ht : P.underlying t = some (.slice e)) (he : P.underlying e = some (.struct #[f0, f1]))
    (hone : oneCellFields P #[f0, f1] = true) (hC : P.cellsOf e = 2) (t0 : P.underlying f0.type = some (.int .i64)) (t1 : P.underlying f1.type = some (.int .i64))
    (h : DataW.trod enc P w base (fun _ => true) held fuel t [.slice A len cap] = some x) :
    len ≤ maxLen ∧ ∃ xs : List (Int × Int), xs.length = len ∧ PairsAt w (.slice A len cap) xs ∧ ∀ p ∈ xs, i64ok p.1 ∧ i64ok p.2 := by
  rcases open_slice_fields ht he hone hC h with ⟨h0, _⟩ | ⟨a, l, c, m, D, Pl, hcs, _, hl, hm, hmm, _, hi⟩
  · simp at h0
    obtain ⟨rfl, rfl, rfl⟩ := h0
    exact ⟨by simp [maxLen], [], rfl, pairs_none _, by simp⟩
  · simp at hcs
    obtain ⟨rfl, rfl, rfl⟩ := hcs
    have hmc : m = cap := by simpa using hmm
    subst hmc
    have key : ∀ j, j < len → ∃ p : Int × Int, w.cell? (a.add (j * 2)) = some (.int .i64 p.1) ∧ w.cell? (a.add (j * 2 + 1)) = some (.int .i64 p.2) ∧ i64ok p.1 ∧ i64ok p.2 := fun j hj => by
      obtain ⟨ys, n, _, _, _, hf⟩ := hi j (by omega)
      obtain ⟨v0, y0, c0, _, h0⟩ := hf 0 f0 rfl
      obtain ⟨v1, y1, c1, _, h1⟩ := hf 1 f1 rfl
      obtain ⟨n0, e0, _, w0⟩ := DataW.trod_int t0 h0
      obtain ⟨n1, e1, _, w1⟩ := DataW.trod_int t1 h1
      simp at e0 e1
      subst e0 e1
      exact ⟨(n0, n1), by simpa using c0, by simpa using c1, bounds_i64 w0, bounds_i64 w1⟩
    refine ⟨by omega, (List.range len).map fun j => if h : j < len then (key j h).choose else (0, 0), by simp, ⟨some a, m, by simp, by simpa using hl, fun hpos => ?_⟩, ?_⟩
    · obtain ⟨b, o, spot⟩ := a
      have hl0 : 0 < len := by simpa using hpos
      have hspot : spot = none := by
        obtain ⟨_, hc0, _⟩ := key 0 hl0
        simpa [Addr.add] using World.cell?_spot hc0
      subst hspot
      refine ⟨b, o, rfl, ?_, fun j p hj => ?_⟩
      · obtain ⟨_, hc0, _⟩ := key 0 hl0
        rw [Addr.add_lit] at hc0
        exact block_lt_of_cell hc0
      · rw [List.getElem?_map] at hj
        have hjl : j < len := by
          rcases Nat.lt_or_ge j len with h | h
          · exact h
          · rw [List.getElem?_eq_none (by simpa using h)] at hj; simp at hj
        rw [List.getElem?_range hjl] at hj
        simp only [Option.map_some, Option.some.injEq, hjl, dif_pos] at hj
        obtain ⟨k0, k1, _⟩ := (key j hjl).choose_spec
        rw [hj] at k0 k1
        rw [Addr.add_lit] at k0 k1
        exact ⟨k0, by rw [← Nat.add_assoc] at k1; exact k1⟩
    · intro p hp
      obtain ⟨i, hi', rfl⟩ := List.mem_map.1 hp
      have hil := List.mem_range.1 hi'
      rw [dif_pos hil]
      exact (key i hil).choose_spec.2.2
theorem Sl.head_le {p : Int × Int} {l : List (Int × Int)} (h : Sl.May (p :: l)) : ∀ q ∈ p :: l, p.1 ≤ q.1 := by
  intro q hq
  rcases List.mem_cons.1 hq with rfl | hq
  · exact Int.le_refl _
  · have := (List.pairwise_cons.1 h.2.1).1 q hq
    unfold Sl.lt at this
    omega
theorem Sl.due_head {p : Int × Int} {l : List (Int × Int)} : 0 < (Sl.due (p :: l) p.1).length ∧ Sl.due (p :: l) (p.1 - 1) = [] := by
  have h1 : 1 ≤ Sl.many (p :: l) p.1 := Sl.many_next (k := 0) (Nat.zero_le _) rfl (Int.le_refl _)
  have h2 := Sl.many_le (p :: l) p.1
  have h3 : 0 = Sl.many (p :: l) (p.1 - 1) := Sl.many_eq (k := 0) (Nat.zero_le _) fun q hq => by simp at hq; subst hq; omega
  refine ⟨?_, ?_⟩
  · unfold Sl.due
    rw [List.length_map, List.length_take]; omega
  · unfold Sl.due
    rw [← h3]; rfl
end Go.Proofs.Ytogcfndhcphpaaa
