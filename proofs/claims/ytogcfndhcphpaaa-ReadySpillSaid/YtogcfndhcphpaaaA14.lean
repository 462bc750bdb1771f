/-
  Several texts in one: Tza, Tzb.
-/
import Derived.Test.YtogcfndhcphpaaaA06
import Derived.Test.YtogcfndhcphpaaaA13
import Derived.Test.YtogcfndhcphpaaaA07
import Derived.Test.YtogcfndhcphpaaaA01
/-
  Structs of a state compared.
-/
set_option linter.unusedVariables false
set_option linter.unusedSimpArgs false
namespace Go.Proofs.Ytogcfndhcphpaaa
open Go.RowKit

theorem run_eqGr (a b c d e a' b' c' d' e' : Int) (w : World) : (Op.equalIn 10000 55 (.agg #[.int .i64 a, .int .i64 b, .int .i64 c, .int .i64 d, .int .i64 e]) (.agg #[.int .i64 a', .int .i64 b', .int .i64 c', .int .i64 d', .int .i64 e'])).run Try.prog w = .ok (decide ([a, b, c, d, e] = [a', b', c', d', e'])) w :=
  run_eqInts (ti := 3) Try.underlying3 (by kernel_rfl) (by kernel_rfl) 5 (by kernel_rfl) [a, b, c, d, e] [a', b', c', d', e'] rfl rfl w
theorem run_eqM (a b a' b' : Int) (w : World) : (Op.equalIn 10000 57 (.agg #[.int .i64 a, .int .i64 b]) (.agg #[.int .i64 a', .int .i64 b'])).run Try.prog w = .ok (decide ([a, b] = [a', b'])) w :=
  run_eqInts (ti := 3) Try.underlying3 (by kernel_rfl) (by kernel_rfl) 2 (by kernel_rfl) [a, b] [a', b'] rfl rfl w
theorem run_eqInstr (a b a' b' : Int) (w : World) : (Op.equalIn 10000 68 (.agg #[.int .i64 a, .int .i64 b]) (.agg #[.int .i64 a', .int .i64 b'])).run Try.prog w = .ok (decide ([a, b] = [a', b'])) w :=
  run_eqInts (ti := 3) Try.underlying3 (by kernel_rfl) (by kernel_rfl) 2 (by kernel_rfl) [a, b] [a', b'] rfl rfl w
theorem run_eq4 (a0 a1 a2 a3 b0 b1 b2 b3 : Int) (w : World) : (Op.equalIn 10000 28 (.agg #[.int .i64 a0, .int .i64 a1, .int .i64 a2, .int .i64 a3]) (.agg #[.int .i64 b0, .int .i64 b1, .int .i64 b2, .int .i64 b3])).run Try.prog w = .ok (decide ([a0, a1, a2, a3] = [b0, b1, b2, b3])) w :=
  run_eqArr 4 Try.underlying28 Try.underlying3 (by kernel_rfl) (by kernel_rfl) 9998 [a0, a1, a2, a3] [b0, b1, b2, b3] rfl rfl w
set_option maxRecDepth 100000 in
theorem run_eqRi (d : Nat) (a0 a1 a2 a3 a4 a5 a6 a7 a8 a9 b0 b1 b2 b3 b4 b5 b6 b7 b8 b9 : Int) (w : World) : (Op.equalIn (d + 3) 38 (.agg #[.int .i64 a0, .int .i64 a1, .int .i64 a2, .int .i64 a3, .int .i64 a4, .int .i64 a5, .int .i64 a6, .int .i64 a7, .int .i64 a8, .int .i64 a9]) (.agg #[.int .i64 b0, .int .i64 b1, .int .i64 b2, .int .i64 b3, .int .i64 b4, .int .i64 b5, .int .i64 b6, .int .i64 b7, .int .i64 b8, .int .i64 b9])).run Try.prog w = .ok (decide ([a0, a1, a2, a3, a4, a5, a6, a7, a8, a9] = [b0, b1, b2, b3, b4, b5, b6, b7, b8, b9])) w := by
  obtain ⟨i, hi⟩ := info_of_underlying Try.underlying36
  have c8 : Try.prog.cellsOf 36 = 8 := by kernel_rfl
  have p1 := run_part_aggN 8 c8 Try.underlying36 rfl hi #[.int .i64 a0, .int .i64 a1, .int .i64 a2, .int .i64 a3, .int .i64 a4, .int .i64 a5, .int .i64 a6, .int .i64 a7, .int .i64 a8, .int .i64 a9] 0 w
  have p2 := run_part_aggN 8 c8 Try.underlying36 rfl hi #[.int .i64 b0, .int .i64 b1, .int .i64 b2, .int .i64 b3, .int .i64 b4, .int .i64 b5, .int .i64 b6, .int .i64 b7, .int .i64 b8, .int .i64 b9] 0 w
  refine (run_eqStruct (P := Try.prog) Try.underlying38 [(36, 0), (3, 8), (3, 9)] (by kernel_rfl) (d + 2) _ _ (fun o => if o = 0 then decide ([a0, a1, a2, a3, a4, a5, a6, a7] = [b0, b1, b2, b3, b4, b5, b6, b7]) else if o = 8 then a8 == b8 else a9 == b9) w fun f hf => by
    simp only [List.mem_cons, List.not_mem_nil, or_false] at hf
    rcases hf with rfl | rfl | rfl
    · exact ⟨_, _, p1, p2, run_eqArr 8 Try.underlying36 Try.underlying3 (by kernel_rfl) (by kernel_rfl) d [a0, a1, a2, a3, a4, a5, a6, a7] [b0, b1, b2, b3, b4, b5, b6, b7] rfl rfl w⟩
    · exact ⟨_, _, run_part_plain w (by kernel_rfl) rfl, run_part_plain w (by kernel_rfl) rfl, run_equalIn_int w _ _ .i64 .i64 _ _ Try.underlying3⟩
    · exact ⟨_, _, run_part_plain w (by kernel_rfl) rfl, run_part_plain w (by kernel_rfl) rfl, run_equalIn_int w _ _ .i64 .i64 _ _ Try.underlying3⟩).trans ?_
  congr 1
  rw [Bool.eq_iff_iff]
  simp [and_assoc]
set_option maxRecDepth 100000 in
theorem run_eqPr (a0 a1 a2 a3 a4 a5 a6 a7 a8 a9 a10 a11 a12 b0 b1 b2 b3 b4 b5 b6 b7 b8 b9 b10 b11 b12 : Int) (w : World) : (Op.equalIn 10000 40 (.agg #[.int .i64 a0, .int .i64 a1, .int .i64 a2, .int .i64 a3, .int .i64 a4, .int .i64 a5, .int .i64 a6, .int .i64 a7, .int .i64 a8, .int .i64 a9, .int .i64 a10, .int .i64 a11, .int .i64 a12]) (.agg #[.int .i64 b0, .int .i64 b1, .int .i64 b2, .int .i64 b3, .int .i64 b4, .int .i64 b5, .int .i64 b6, .int .i64 b7, .int .i64 b8, .int .i64 b9, .int .i64 b10, .int .i64 b11, .int .i64 b12])).run Try.prog w = .ok (decide ([a0, a1, a2, a3, a4, a5, a6, a7, a8, a9, a10, a11, a12] = [b0, b1, b2, b3, b4, b5, b6, b7, b8, b9, b10, b11, b12])) w := by
  obtain ⟨i, hi⟩ := info_of_underlying Try.underlying38
  have c8 : Try.prog.cellsOf 38 = 10 := by kernel_rfl
  have p1 := run_part_aggN 10 c8 Try.underlying38 rfl hi #[.int .i64 a0, .int .i64 a1, .int .i64 a2, .int .i64 a3, .int .i64 a4, .int .i64 a5, .int .i64 a6, .int .i64 a7, .int .i64 a8, .int .i64 a9, .int .i64 a10, .int .i64 a11, .int .i64 a12] 2 w
  have p2 := run_part_aggN 10 c8 Try.underlying38 rfl hi #[.int .i64 b0, .int .i64 b1, .int .i64 b2, .int .i64 b3, .int .i64 b4, .int .i64 b5, .int .i64 b6, .int .i64 b7, .int .i64 b8, .int .i64 b9, .int .i64 b10, .int .i64 b11, .int .i64 b12] 2 w
  refine (run_eqStruct (P := Try.prog) Try.underlying40 [(3, 0), (3, 1), (38, 2), (3, 12)] (by kernel_rfl) 9999 _ _ (fun o => if o = 0 then a0 == b0 else if o = 1 then a1 == b1 else if o = 2 then decide ([a2, a3, a4, a5, a6, a7, a8, a9, a10, a11] = [b2, b3, b4, b5, b6, b7, b8, b9, b10, b11]) else a12 == b12) w fun f hf => by
    simp only [List.mem_cons, List.not_mem_nil, or_false] at hf
    rcases hf with rfl | rfl | rfl | rfl
    · exact ⟨_, _, run_part_plain w (by kernel_rfl) rfl, run_part_plain w (by kernel_rfl) rfl, run_equalIn_int w _ _ .i64 .i64 _ _ Try.underlying3⟩
    · exact ⟨_, _, run_part_plain w (by kernel_rfl) rfl, run_part_plain w (by kernel_rfl) rfl, run_equalIn_int w _ _ .i64 .i64 _ _ Try.underlying3⟩
    · exact ⟨_, _, p1, p2, run_eqRi 9996 a2 a3 a4 a5 a6 a7 a8 a9 a10 a11 b2 b3 b4 b5 b6 b7 b8 b9 b10 b11 w⟩
    · exact ⟨_, _, run_part_plain w (by kernel_rfl) rfl, run_part_plain w (by kernel_rfl) rfl, run_equalIn_int w _ _ .i64 .i64 _ _ Try.underlying3⟩).trans ?_
  congr 1
  rw [Bool.eq_iff_iff]
  simp [and_assoc]
end Go.Proofs.Ytogcfndhcphpaaa
/-
  The document's Same of states, I: lists of Gs, of Ps and Ms.
-/
set_option linter.unusedVariables false
set_option linter.unusedSimpArgs false
namespace Go.Proofs.Ytogcfndhcphpaaa
open Go.RowKit

theorem eq_of_take {α : Type} {a b : List α} (hl : a.length = b.length) (h : a.take a.length = b.take a.length) : a = b := by
  rw [List.take_length, hl, List.take_length] at h; exact h
theorem ne_of_get {α : Type} {a b : List α} {k : Nat} {x y : α} (hx : a[k]? = some x) (hy : b[k]? = some y) (h : x ≠ y) : a ≠ b := by
  rintro rfl; rw [hx] at hy; exact h (Option.some.inj hy)
theorem take_eq_next {α : Type} {a b : List α} {k : Nat} {x : α} (h : a.take k = b.take k) (hx : a[k]? = some x) (hy : b[k]? = some x) : a.take (k + 1) = b.take (k + 1) := by
  obtain ⟨h1, h2⟩ := List.getElem?_eq_some_iff.1 hx
  obtain ⟨h3, h4⟩ := List.getElem?_eq_some_iff.1 hy
  rw [List.take_succ_eq_append_getElem h1, List.take_succ_eq_append_getElem h3, h, h2, h4]
theorem RowsAt.range {α : Type} {m : Nat} {f : α → List Value} {w : World} {A : Option Addr} {n c : Nat} {xs : List α} (h : RowsAt m f w (.slice A n c) xs) {k : Nat} {x : α} (hk : xs[k]? = some x) :
    ∃ b o, A = some ⟨b, o, none⟩ ∧ b < w.heap.size ∧ w.rangeAt b (o + k * m) (f x) := by
  obtain ⟨b, o, hA, hb, hc⟩ := h.get hk
  exact ⟨b, o, hA, hb, fun j v hj => hc j v hj⟩
theorem range_ext {w w' : World} {b o : Nat} {cs : List Value} (h : w.rangeAt b o cs) (hb : b < w.heap.size) (hx : Ext w w') : w'.rangeAt b o cs := fun j v hj => by
  rw [Below.cell hx hb]; exact h j v hj
theorem eqG_run (g g' : Gr) (b : Bool) (hb : b = true ↔ g = g') (w : World) : (Op.equalIn 10000 55 (.agg (gL g).toArray) (.agg (gL g').toArray)).run Try.prog w = .ok b w := by
  obtain ⟨a1, a2, a3, a4, a5⟩ := g
  obtain ⟨b1, b2, b3, b4, b5⟩ := g'
  refine (run_eqGr a1 a2 a3 a4 a5 b1 b2 b3 b4 b5 w).trans ?_
  congr 1
  rw [Bool.eq_iff_iff, hb]
  simp
theorem eqM_run (g g' : Int × Int) (b : Bool) (hb : b = true ↔ g = g') (w : World) : (Op.equalIn 10000 57 (.agg (pairL g).toArray) (.agg (pairL g').toArray)).run Try.prog w = .ok b w := by
  obtain ⟨a1, a2⟩ := g
  obtain ⟨b1, b2⟩ := g'
  refine (run_eqM a1 a2 b1 b2 w).trans ?_
  congr 1
  rw [Bool.eq_iff_iff, hb]
  simp
theorem eqI_run (g g' : Int × Int) (b : Bool) (hb : b = true ↔ g = g') (w : World) : (Op.equalIn 10000 68 (.agg (pairL g).toArray) (.agg (pairL g').toArray)).run Try.prog w = .ok b w := by
  obtain ⟨a1, a2⟩ := g
  obtain ⟨b1, b2⟩ := g'
  refine (run_eqInstr a1 a2 b1 b2 w).trans ?_
  congr 1
  rw [Bool.eq_iff_iff, hb]
  simp
/-- A P's cells, as many as there are. -/
def pL13 (p : Pr) : List Value := [.int .i64 p.m, .int .i64 p.next, .int .i64 (p.ring.buf.getD 0 0), .int .i64 (p.ring.buf.getD 1 0), .int .i64 (p.ring.buf.getD 2 0), .int .i64 (p.ring.buf.getD 3 0), .int .i64 (p.ring.buf.getD 4 0), .int .i64 (p.ring.buf.getD 5 0), .int .i64 (p.ring.buf.getD 6 0), .int .i64 (p.ring.buf.getD 7 0), .int .i64 p.ring.head, .int .i64 p.ring.n, .int .i64 p.seq]
theorem pL13_eq {p : Pr} (h : p.ring.buf.length = 8) : pL p = pL13 p := by
  obtain ⟨m, nx, r, sq⟩ := p
  obtain ⟨b0, b1, b2, b3, b4, b5, b6, b7, hd, nn, rfl⟩ := Ri.open8 h
  rfl
theorem eqP_run (g g' : Pr) (h : g.ring.buf.length = 8) (h' : g'.ring.buf.length = 8) (b : Bool) (hb : b = true ↔ g = g') (w : World) : (Op.equalIn 10000 40 (.agg (pL13 g).toArray) (.agg (pL13 g').toArray)).run Try.prog w = .ok b w := by
  obtain ⟨m, nx, r, sq⟩ := g
  obtain ⟨b0, b1, b2, b3, b4, b5, b6, b7, hd, nn, rfl⟩ := Ri.open8 h
  obtain ⟨m', nx', r', sq'⟩ := g'
  obtain ⟨c0, c1, c2, c3, c4, c5, c6, c7, hd', nn', rfl⟩ := Ri.open8 h'
  refine (run_eqPr m nx b0 b1 b2 b3 b4 b5 b6 b7 hd nn sq m' nx' c0 c1 c2 c3 c4 c5 c6 c7 hd' nn' sq' w).trans ?_
  congr 1
  rw [Bool.eq_iff_iff, hb]
  simp [and_assoc]
set_option maxRecDepth 100000 in
set_option maxHeartbeats 4000000 in
theorem rgs_any (A A' : Option Addr) (c c' : Nat) (a b : List Gr) (r : Bool) (hr : r = true ↔ a = b) (w : World) (h1 : RowsAt 5 gL w (.slice A a.length c) a) (h2 : RowsAt 5 gL w (.slice A' b.length c') b) (ha : a.length ≤ 1000000) :
    Calls Try.prog 64 #[.slice A a.length c, .slice A' b.length c'] w fun e w' => e = .returned (.bool r) ∧ Ext w w' := by
  have H1 := Lib.hid h1
  have H2 := Lib.hid h2
  have HR := Lib.hid hr
  clear h1 h2 hr
  by_cases hl : a.length = b.length
  · have HL := Lib.hid hl
    have hl' : ((a.length : Int) != (b.length : Int)) = false := by simp; omega
    clear hl
    go_enter Try.func64, Try.ntmps64
    go_wp2
    go_loopw [5] (fun iv wr => ∃ k : Nat, k ≤ a.length ∧ iv = .int .i64 k ∧ a.take k = b.take k ∧ Ext w wr) (fun iv _ => a.length - (intOf iv).toNat)
    case atStart => exact ⟨0, by omega, rfl, rfl, Ext.refl _⟩
    case round =>
      obtain ⟨k, hk, rfl, heq, hx⟩ := hrel
      have HX := Lib.hid hx
      have HEQ := Lib.hid heq
      clear hx heq
      by_cases hlt : k < a.length
      · obtain ⟨x, hxa⟩ : ∃ x, a[k]? = some x := ⟨_, List.getElem?_eq_getElem hlt⟩
        obtain ⟨y, hyb⟩ : ∃ y, b[k]? = some y := ⟨_, List.getElem?_eq_getElem (by have := HL.out; omega)⟩
        obtain ⟨ba, oa, rfl, hba, hra⟩ := H1.out.range hxa
        obtain ⟨bb, ob, rfl, hbb, hrb⟩ := H2.out.range hyb
        have HRA : Hid (∀ v, Ext wr v → v.rangeAt ba (oa + k * 5) (gL x)) := Lib.hid fun v hv => range_ext hra hba (HX.out.trans hv)
        have HRB : Hid (∀ v, Ext wr v → v.rangeAt bb (ob + k * 5) (gL y)) := Lib.hid fun v hv => range_ext hrb hbb (HX.out.trans hv)
        have i0 : (0 : Int) ≤ (k : Int) := by omega
        have i1 : (k : Int) < (a.length : Int) := by omega
        have i2 : (k : Int) < (b.length : Int) := by have := HL.out; omega
        have HN : Hid (x ≠ y → r = false) := Lib.hid fun h => by
          cases r with
          | false => rfl
          | true => exact absurd (HR.out.1 rfl) (ne_of_get hxa hyb h)
        have HY : Hid (x = y → a.take (k + 1) = b.take (k + 1)) := Lib.hid fun h => take_eq_next HEQ.out hxa (by rw [h]; exact hyb)
        clear hba hra hbb hrb hxa hyb
        go_wp2
        by_cases hxy : x = y
        · have hq : ∀ w, (Op.equalIn 10000 55 (.agg (gL x).toArray) (.agg (gL y).toArray)).run Try.prog w = .ok true w := fun w => eqG_run x y true (by simp [hxy]) w
          have HN2 := Lib.hid (HY.out hxy)
          clear hxy
          refine region_rgx ([]) (wr) (by kernel_rfl) (by kernel_rfl) ?_ ?_ ?_
          · exact List.forall_mem_nil _
          · first | assumption | exact Ext.refl _
          refine rg_pure (v := ?_) rfl (by kernel_rfl) (by kernel_rfl) (fun w hS hN => ?_) ?_
          rotate_left 1
          · clear hN
            go_simp
            refine givesP_mk ?_
            with_reducible rfl
          refine rg_pure (v := ?_) rfl (by kernel_rfl) (by kernel_rfl) (fun w hS hN => ?_) ?_
          rotate_left 1
          · clear hN
            go_simp
            refine givesP_mk ?_
            with_reducible rfl
          refine rg_pure (v := ?_) rfl (by kernel_rfl) (by kernel_rfl) (fun w hS hN => ?_) ?_
          rotate_left 1
          · clear hN
            go_simp
            refine givesP_mk ?_
            with_reducible rfl
          refine rg_pure (v := .agg (gL x).toArray) rfl (by kernel_rfl) (by kernel_rfl) (fun w hS hN => ?_) ?_
          · clear hN
            exact givesP_loadM 55 _ rfl (ba) (oa + k * 5) (by go_simp) (gL x) _ rfl _ (HRA.out w hS) Try.underlying55 rfl (by kernel_rfl)
          refine rg_pure (v := ?_) rfl (by kernel_rfl) (by kernel_rfl) (fun w hS hN => ?_) ?_
          rotate_left 1
          · clear hN
            go_simp
            refine givesP_mk ?_
            with_reducible rfl
          refine rg_pure (v := ?_) rfl (by kernel_rfl) (by kernel_rfl) (fun w hS hN => ?_) ?_
          rotate_left 1
          · clear hN
            go_simp
            refine givesP_mk ?_
            with_reducible rfl
          refine rg_pure (v := ?_) rfl (by kernel_rfl) (by kernel_rfl) (fun w hS hN => ?_) ?_
          rotate_left 1
          · clear hN
            go_simp
            refine givesP_mk ?_
            with_reducible rfl
          refine rg_pure (v := .agg (gL y).toArray) rfl (by kernel_rfl) (by kernel_rfl) (fun w hS hN => ?_) ?_
          · clear hN
            exact givesP_loadM 55 _ rfl (bb) (ob + k * 5) (by go_simp) (gL y) _ rfl _ (HRB.out w hS) Try.underlying55 rfl (by kernel_rfl)
          refine rg_pure (v := ?_) rfl (by kernel_rfl) (by kernel_rfl) (fun w hS hN => ?_) ?_
          rotate_left 1
          · clear hN
            go_simp
            refine givesP_mk ?_
            with_reducible rfl
          refine rg_done rfl (Nat.le_of_ble_eq_true (by kernel_rfl)) ?_
          intro w8 hS hT
          have HX8 := Lib.hid (HX.out.trans hS)
          clear hT hS hq i1 i2
          go_simp
          go_wp2
          go_roundw
          case rel => exact ⟨k + 1, by omega, by go_num, HN2.out, HX8.out⟩
          case measure => simp [intOf]; omega
        · have hq : ∀ w, (Op.equalIn 10000 55 (.agg (gL x).toArray) (.agg (gL y).toArray)).run Try.prog w = .ok false w := fun w => eqG_run x y false (by simp [hxy]) w
          have HN2 := Lib.hid (HN.out hxy)
          clear hxy
          refine region_rgx ([]) (wr) (by kernel_rfl) (by kernel_rfl) ?_ ?_ ?_
          · exact List.forall_mem_nil _
          · first | assumption | exact Ext.refl _
          refine rg_pure (v := ?_) rfl (by kernel_rfl) (by kernel_rfl) (fun w hS hN => ?_) ?_
          rotate_left 1
          · clear hN
            go_simp
            refine givesP_mk ?_
            with_reducible rfl
          refine rg_pure (v := ?_) rfl (by kernel_rfl) (by kernel_rfl) (fun w hS hN => ?_) ?_
          rotate_left 1
          · clear hN
            go_simp
            refine givesP_mk ?_
            with_reducible rfl
          refine rg_pure (v := ?_) rfl (by kernel_rfl) (by kernel_rfl) (fun w hS hN => ?_) ?_
          rotate_left 1
          · clear hN
            go_simp
            refine givesP_mk ?_
            with_reducible rfl
          refine rg_pure (v := .agg (gL x).toArray) rfl (by kernel_rfl) (by kernel_rfl) (fun w hS hN => ?_) ?_
          · clear hN
            exact givesP_loadM 55 _ rfl (ba) (oa + k * 5) (by go_simp) (gL x) _ rfl _ (HRA.out w hS) Try.underlying55 rfl (by kernel_rfl)
          refine rg_pure (v := ?_) rfl (by kernel_rfl) (by kernel_rfl) (fun w hS hN => ?_) ?_
          rotate_left 1
          · clear hN
            go_simp
            refine givesP_mk ?_
            with_reducible rfl
          refine rg_pure (v := ?_) rfl (by kernel_rfl) (by kernel_rfl) (fun w hS hN => ?_) ?_
          rotate_left 1
          · clear hN
            go_simp
            refine givesP_mk ?_
            with_reducible rfl
          refine rg_pure (v := ?_) rfl (by kernel_rfl) (by kernel_rfl) (fun w hS hN => ?_) ?_
          rotate_left 1
          · clear hN
            go_simp
            refine givesP_mk ?_
            with_reducible rfl
          refine rg_pure (v := .agg (gL y).toArray) rfl (by kernel_rfl) (by kernel_rfl) (fun w hS hN => ?_) ?_
          · clear hN
            exact givesP_loadM 55 _ rfl (bb) (ob + k * 5) (by go_simp) (gL y) _ rfl _ (HRB.out w hS) Try.underlying55 rfl (by kernel_rfl)
          refine rg_pure (v := ?_) rfl (by kernel_rfl) (by kernel_rfl) (fun w hS hN => ?_) ?_
          rotate_left 1
          · clear hN
            go_simp
            refine givesP_mk ?_
            with_reducible rfl
          refine rg_done rfl (Nat.le_of_ble_eq_true (by kernel_rfl)) ?_
          intro w8 hS hT
          have HX8 := Lib.hid (HX.out.trans hS)
          clear hT hS hq
          go_simp
          go_wp2
          go_ret
          exact ⟨by rw [HN2.out] <;> rfl, HX8.out⟩
      · obtain rfl : k = a.length := by omega
        have HY : Hid (r = true) := Lib.hid (HR.out.2 (eq_of_take HL.out HEQ.out))
        go_wp2
        go_ret
        exact ⟨by rw [HY.out] <;> rfl, HX.out⟩
  · have hl' : ((a.length : Int) != (b.length : Int)) = true := by simp; omega
    have HN : Hid (r = false) := Lib.hid (by
      cases r with
      | false => rfl
      | true => exact absurd (congrArg List.length (HR.out.1 rfl)) hl)
    clear hl
    go_enter Try.func64, Try.ntmps64
    go_wp2
    go_ret
    exact ⟨by rw [HN.out] <;> rfl, Ext.refl _⟩
theorem St.same_iff (s t : St) : s = t ↔ s.prog = t.prog ∧ s.gs = t.gs ∧ s.ps = t.ps ∧ s.ms = t.ms ∧ s.glob = t.glob ∧ s.cnts = t.cnts ∧ s.wts = t.wts ∧ s.timers = t.timers ∧ s.clock = t.clock ∧ s.procs = t.procs := by
  constructor
  · rintro rfl; exact ⟨rfl, rfl, rfl, rfl, rfl, rfl, rfl, rfl, rfl, rfl⟩
  · obtain ⟨a1, a2, a3, a4, a5, a6, a7, a8, a9, a10, a11, a12, a13, a14, a15, a16⟩ := s
    obtain ⟨b1, b2, b3, b4, b5, b6, b7, b8, b9, b10, b11, b12, b13, b14, b15, b16⟩ := t
    simp only [St.cnts, St.wts]
    rintro ⟨rfl, rfl, rfl, rfl, rfl, h1, h2, rfl, rfl, rfl⟩
    simp only [List.cons.injEq, and_true] at h1 h2
    obtain ⟨rfl, rfl, rfl, rfl⟩ := h1
    obtain ⟨rfl, rfl, rfl, rfl⟩ := h2
    rfl
theorem ps_range {w : World} {A : Option Addr} {n c : Nat} {l : List Pr} (h : RowsAt 13 pL w (.slice A n c) l) (hb : ∀ p ∈ l, p.ring.buf.length = 8) {k : Nat} {p : Pr} (hk : l[k]? = some p) :
    ∃ b o, A = some ⟨b, o, none⟩ ∧ b < w.heap.size ∧ w.rangeAt b (o + k * 13) (pL13 p) := by
  have := h.range hk
  rwa [pL13_eq (hb p (List.mem_of_getElem? hk))] at this
set_option maxRecDepth 100000 in
set_option maxHeartbeats 8000000 in
theorem rps_any (h h' : StH) (s s' : St) (r : Bool) (hr : r = true ↔ s.ps = s'.ps ∧ s.ms = s'.ms) (w : World) (hk : StOk w h s) (hk' : StOk w h' s') (hf : StFew s) : Calls Try.prog 65 #[stV h s, stV h' s'] w fun e w' => e = .returned (.bool r) ∧ Ext w w' := by
  have f1 := hf.ps
  have f2 := hf.ms
  have HR := Lib.hid hr
  clear hf hr
  have HK := Lib.hid hk
  obtain ⟨w2, hw2⟩ : ∃ w2, (w.alloc (.cells #[.slice h.pa s.prog.length h.pc, .slice h.ga s.gs.length h.gc, .slice h.qa s.ps.length h.qc, .slice h.ma s.ms.length h.mc, .slice h.la s.glob.length h.lc, .int .i64 s.c0, .int .i64 s.c1, .int .i64 s.c2, .int .i64 s.c3, .slice h.a0 s.w0.length h.k0, .slice h.a1 s.w1.length h.k1, .slice h.a2 s.w2.length h.k2, .slice h.a3 s.w3.length h.k3, .slice h.ta s.timers.length h.tc, .int .i64 s.clock, .int .i64 s.procs] 32)).alloc (.cells #[.slice h'.pa s'.prog.length h'.pc, .slice h'.ga s'.gs.length h'.gc, .slice h'.qa s'.ps.length h'.qc, .slice h'.ma s'.ms.length h'.mc, .slice h'.la s'.glob.length h'.lc, .int .i64 s'.c0, .int .i64 s'.c1, .int .i64 s'.c2, .int .i64 s'.c3, .slice h'.a0 s'.w0.length h'.k0, .slice h'.a1 s'.w1.length h'.k1, .slice h'.a2 s'.w2.length h'.k2, .slice h'.a3 s'.w3.length h'.k3, .slice h'.ta s'.timers.length h'.tc, .int .i64 s'.clock, .int .i64 s'.procs] 32) = w2 := ⟨_, rfl⟩
  obtain ⟨B, hB⟩ : ∃ B, w.heap.size + 1 = B := ⟨_, rfl⟩
  have hx2 : Ext w w2 := by rw [← hw2]; exact ((Ext.refl w).alloc _).alloc _
  have HBA : Hid (w2.heap[w.heap.size]? = some (.cells (stC h s) 32 (0, 0))) := Lib.hid (by rw [← hw2]; exact blk_alloc (blk_new w _) _)
  have HBB : Hid (w2.heap[B]? = some (.cells (stC h' s') 32 (0, 0))) := Lib.hid (by
    have := blk_new (w.alloc (.cells #[.slice h.pa s.prog.length h.pc, .slice h.ga s.gs.length h.gc, .slice h.qa s.ps.length h.qc, .slice h.ma s.ms.length h.mc, .slice h.la s.glob.length h.lc, .int .i64 s.c0, .int .i64 s.c1, .int .i64 s.c2, .int .i64 s.c3, .slice h.a0 s.w0.length h.k0, .slice h.a1 s.w1.length h.k1, .slice h.a2 s.w2.length h.k2, .slice h.a3 s.w3.length h.k3, .slice h.ta s.timers.length h.tc, .int .i64 s.clock, .int .i64 s.procs] 32)) (.cells #[.slice h'.pa s'.prog.length h'.pc, .slice h'.ga s'.gs.length h'.gc, .slice h'.qa s'.ps.length h'.qc, .slice h'.ma s'.ms.length h'.mc, .slice h'.la s'.glob.length h'.lc, .int .i64 s'.c0, .int .i64 s'.c1, .int .i64 s'.c2, .int .i64 s'.c3, .slice h'.a0 s'.w0.length h'.k0, .slice h'.a1 s'.w1.length h'.k1, .slice h'.a2 s'.w2.length h'.k2, .slice h'.a3 s'.w3.length h'.k3, .slice h'.ta s'.timers.length h'.tc, .int .i64 s'.clock, .int .i64 s'.procs] 32)
    rw [hw2, World.size_alloc, hB] at this
    exact this)
  have HX2 := Lib.hid hx2
  have HB := Lib.hid hB
  have HKA := Lib.hid (hk.ext hx2)
  have HKB := Lib.hid (hk'.ext hx2)
  have HW2 := Lib.hid hw2
  clear hw2 hx2 hB hk hk'
  have HNO : Hid ((s.ps = s'.ps → ¬ s.ms = s'.ms) → r = false) := Lib.hid fun h => by
    cases r with
    | false => rfl
    | true => exact absurd (HR.out.1 rfl).2 (h (HR.out.1 rfl).1)
  obtain ⟨W0, hW0⟩ : ∃ W0, w.heap.size = W0 := ⟨_, rfl⟩
  rw [hW0] at HBA
  have HW0 := Lib.hid hW0
  clear hW0
  have qa2 := st2 HBA.out
  have qb2 := st2 HBB.out
  have qa3 := st3 HBA.out
  have qb3 := st3 HBB.out
  unfold stV
  go_enter Try.func65, Try.ntmps65
  go_upto_region 1 with fail
  rw [HW2.out, HB.out]
  generalize Value.agg #[.slice h.pa s.prog.length h.pc, .slice h.ga s.gs.length h.gc, .slice h.qa s.ps.length h.qc, .slice h.ma s.ms.length h.mc, .slice h.la s.glob.length h.lc, .int .i64 s.c0, .int .i64 s.c1, .int .i64 s.c2, .int .i64 s.c3, .slice h.a0 s.w0.length h.k0, .slice h.a1 s.w1.length h.k1, .slice h.a2 s.w2.length h.k2, .slice h.a3 s.w3.length h.k3, .slice h.ta s.timers.length h.tc, .int .i64 s.clock, .int .i64 s.procs] = sv0
  generalize Value.agg #[.slice h'.pa s'.prog.length h'.pc, .slice h'.ga s'.gs.length h'.gc, .slice h'.qa s'.ps.length h'.qc, .slice h'.ma s'.ms.length h'.mc, .slice h'.la s'.glob.length h'.lc, .int .i64 s'.c0, .int .i64 s'.c1, .int .i64 s'.c2, .int .i64 s'.c3, .slice h'.a0 s'.w0.length h'.k0, .slice h'.a1 s'.w1.length h'.k1, .slice h'.a2 s'.w2.length h'.k2, .slice h'.a3 s'.w3.length h'.k3, .slice h'.ta s'.timers.length h'.tc, .int .i64 s'.clock, .int .i64 s'.procs] = sv1
  rw [HW0.out]
  by_cases hl : s.ps.length = s'.ps.length
  rotate_left 1
  · have hl' : ((s.ps.length : Int) != (s'.ps.length : Int)) = true := by simp; omega
    have HN : Hid (r = false) := Lib.hid (HNO.out fun h => absurd (congrArg List.length h) hl)
    clear hl
    go_wp2
    go_ret
    exact ⟨by rw [HN.out] <;> rfl, HX2.out⟩
  have HL1 := Lib.hid hl
  have hl' : ((s.ps.length : Int) != (s'.ps.length : Int)) = false := by simp; omega
  clear hl
  by_cases hl2 : s.ms.length = s'.ms.length
  rotate_left 1
  · have hl2' : ((s.ms.length : Int) != (s'.ms.length : Int)) = true := by simp; omega
    have HN : Hid (r = false) := Lib.hid (HNO.out fun _ h => absurd (congrArg List.length h) hl2)
    clear hl2
    go_wp2
    go_ret
    exact ⟨by rw [HN.out] <;> rfl, HX2.out⟩
  have HL2 := Lib.hid hl2
  have hl2' : ((s.ms.length : Int) != (s'.ms.length : Int)) = false := by simp; omega
  clear hl2
  go_wp2_with fail
  clear qa2 qb2 qa3 qb3 hl' hl2'
  go_loopw [5] (fun iv wr => ∃ k : Nat, k ≤ s.ps.length ∧ iv = .int .i64 k ∧ s.ps.take k = s'.ps.take k ∧ Ext w2 wr) (fun iv _ => s.ps.length - (intOf iv).toNat)
  case atStart => exact ⟨0, by omega, rfl, rfl, Ext.refl _⟩
  case round =>
    skip
    obtain ⟨k, hk, rfl, heq, hx⟩ := hrel
    have HX := Lib.hid hx
    have HEQ := Lib.hid heq
    clear hx heq
    have qa2 : wr.cell? ⟨W0, 2, none⟩ = some (.slice h.qa s.ps.length h.qc) := st2 (HX.out.blk HBA.out)
    by_cases hlt : k < s.ps.length
    · obtain ⟨x, hxa⟩ : ∃ x, s.ps[k]? = some x := ⟨_, List.getElem?_eq_getElem hlt⟩
      obtain ⟨y, hyb⟩ : ∃ y, s'.ps[k]? = some y := ⟨_, List.getElem?_eq_getElem (by have := HL1.out; omega)⟩
      obtain ⟨ba, oa, haa, hba, hra⟩ := ps_range HKA.out.ps HKA.out.buf hxa
      obtain ⟨bb, ob, hab, hbb, hrb⟩ := ps_range HKB.out.ps HKB.out.buf hyb
      have HAA := Lib.hid haa
      have HAB := Lib.hid hab
      have HRA : Hid (∀ v, Ext wr v → v.rangeAt ba (oa + k * 13) (pL13 x)) := Lib.hid fun v hv => range_ext hra hba (HX.out.trans hv)
      have HRB : Hid (∀ v, Ext wr v → v.rangeAt bb (ob + k * 13) (pL13 y)) := Lib.hid fun v hv => range_ext hrb hbb (HX.out.trans hv)
      have i0 : (0 : Int) ≤ (k : Int) := by omega
      have i1 : (k : Int) < (s.ps.length : Int) := by omega
      have i2 : (k : Int) < (s'.ps.length : Int) := by have := HL1.out; omega
      have HN : Hid (x ≠ y → r = false) := Lib.hid fun h => HNO.out fun h1 => absurd h1 (ne_of_get hxa hyb h)
      have HY : Hid (x = y → s.ps.take (k + 1) = s'.ps.take (k + 1)) := Lib.hid fun h => take_eq_next HEQ.out hxa (by rw [h]; exact hyb)
      have HU : Hid (x.ring.buf.length = 8 ∧ y.ring.buf.length = 8) := Lib.hid ⟨HKA.out.buf _ (List.mem_of_getElem? hxa), HKB.out.buf _ (List.mem_of_getElem? hyb)⟩
      clear hba hra hbb hrb hxa hyb haa hab
      go_wp2
      clear qa2
      by_cases hxy : x = y
      · have hq : ∀ w, (Op.equalIn 10000 40 (.agg (pL13 x).toArray) (.agg (pL13 y).toArray)).run Try.prog w = .ok true w := fun w => eqP_run x y HU.out.1 HU.out.2 true (by simp [hxy]) w
        have HN2 := Lib.hid (HY.out hxy)
        clear hxy
        refine region_rgx ([]) (wr) (by kernel_rfl) (by kernel_rfl) ?_ ?_ ?_
        · exact List.forall_mem_nil _
        · first | assumption | exact Ext.refl _
        refine rg_pure (v := ?_) rfl (by kernel_rfl) (by kernel_rfl) (fun w hS hN => ?_) ?_
        rotate_left 1
        · clear hN
          go_simp
          refine givesP_mk ?_
          with_reducible rfl
        refine rg_pure (v := ?_) rfl (by kernel_rfl) (by kernel_rfl) (fun w hS hN => ?_) ?_
        rotate_left 1
        · have k1 : w.cell? ⟨W0, 2, none⟩ = some (.slice (some ⟨ba, oa, none⟩) s.ps.length h.qc) := (by rw [← HAA.out]; exact st2 ((HX.out.trans hS).blk HBA.out))
          clear hN
          go_simp
          refine givesP_mk ?_
          with_reducible rfl
        refine rg_pure (v := ?_) rfl (by kernel_rfl) (by kernel_rfl) (fun w hS hN => ?_) ?_
        rotate_left 1
        · clear hN
          go_simp
          refine givesP_mk ?_
          with_reducible rfl
        refine rg_pure (v := ?_) rfl (by kernel_rfl) (by kernel_rfl) (fun w hS hN => ?_) ?_
        rotate_left 1
        · clear hN
          go_simp
          refine givesP_mk ?_
          with_reducible rfl
        refine rg_pure (v := .agg (pL13 x).toArray) rfl (by kernel_rfl) (by kernel_rfl) (fun w hS hN => ?_) ?_
        · clear hN
          exact givesP_loadM 40 _ rfl (ba) (oa + k * 13) (by go_simp) (pL13 x) _ rfl _ (HRA.out w hS) Try.underlying40 rfl (by kernel_rfl)
        refine rg_pure (v := ?_) rfl (by kernel_rfl) (by kernel_rfl) (fun w hS hN => ?_) ?_
        rotate_left 1
        · clear hN
          go_simp
          refine givesP_mk ?_
          with_reducible rfl
        refine rg_pure (v := ?_) rfl (by kernel_rfl) (by kernel_rfl) (fun w hS hN => ?_) ?_
        rotate_left 1
        · have k2 : w.cell? ⟨B, 2, none⟩ = some (.slice (some ⟨bb, ob, none⟩) s'.ps.length h'.qc) := (by rw [← HAB.out]; exact st2 ((HX.out.trans hS).blk HBB.out))
          clear hN
          go_simp
          refine givesP_mk ?_
          with_reducible rfl
        refine rg_pure (v := ?_) rfl (by kernel_rfl) (by kernel_rfl) (fun w hS hN => ?_) ?_
        rotate_left 1
        · clear hN
          go_simp
          refine givesP_mk ?_
          with_reducible rfl
        refine rg_pure (v := ?_) rfl (by kernel_rfl) (by kernel_rfl) (fun w hS hN => ?_) ?_
        rotate_left 1
        · clear hN
          go_simp
          refine givesP_mk ?_
          with_reducible rfl
        refine rg_pure (v := .agg (pL13 y).toArray) rfl (by kernel_rfl) (by kernel_rfl) (fun w hS hN => ?_) ?_
        · clear hN
          exact givesP_loadM 40 _ rfl (bb) (ob + k * 13) (by go_simp) (pL13 y) _ rfl _ (HRB.out w hS) Try.underlying40 rfl (by kernel_rfl)
        refine rg_pure (v := ?_) rfl (by kernel_rfl) (by kernel_rfl) (fun w hS hN => ?_) ?_
        rotate_left 1
        · clear hN
          go_simp
          refine givesP_mk ?_
          with_reducible rfl
        refine rg_done rfl (Nat.le_of_ble_eq_true (by kernel_rfl)) ?_
        intro w8 hS hT
        have HX8 := Lib.hid (HX.out.trans hS)
        clear hT hS hq i1 i2
        go_simp
        go_wp2
        go_roundw
        case rel => exact ⟨k + 1, by omega, by go_num, HN2.out, HX8.out⟩
        case measure => simp [intOf]; omega
      · have hq : ∀ w, (Op.equalIn 10000 40 (.agg (pL13 x).toArray) (.agg (pL13 y).toArray)).run Try.prog w = .ok false w := fun w => eqP_run x y HU.out.1 HU.out.2 false (by simp [hxy]) w
        have HN2 := Lib.hid (HN.out hxy)
        clear hxy
        refine region_rgx ([]) (wr) (by kernel_rfl) (by kernel_rfl) ?_ ?_ ?_
        · exact List.forall_mem_nil _
        · first | assumption | exact Ext.refl _
        refine rg_pure (v := ?_) rfl (by kernel_rfl) (by kernel_rfl) (fun w hS hN => ?_) ?_
        rotate_left 1
        · clear hN
          go_simp
          refine givesP_mk ?_
          with_reducible rfl
        refine rg_pure (v := ?_) rfl (by kernel_rfl) (by kernel_rfl) (fun w hS hN => ?_) ?_
        rotate_left 1
        · have k1 : w.cell? ⟨W0, 2, none⟩ = some (.slice (some ⟨ba, oa, none⟩) s.ps.length h.qc) := (by rw [← HAA.out]; exact st2 ((HX.out.trans hS).blk HBA.out))
          clear hN
          go_simp
          refine givesP_mk ?_
          with_reducible rfl
        refine rg_pure (v := ?_) rfl (by kernel_rfl) (by kernel_rfl) (fun w hS hN => ?_) ?_
        rotate_left 1
        · clear hN
          go_simp
          refine givesP_mk ?_
          with_reducible rfl
        refine rg_pure (v := ?_) rfl (by kernel_rfl) (by kernel_rfl) (fun w hS hN => ?_) ?_
        rotate_left 1
        · clear hN
          go_simp
          refine givesP_mk ?_
          with_reducible rfl
        refine rg_pure (v := .agg (pL13 x).toArray) rfl (by kernel_rfl) (by kernel_rfl) (fun w hS hN => ?_) ?_
        · clear hN
          exact givesP_loadM 40 _ rfl (ba) (oa + k * 13) (by go_simp) (pL13 x) _ rfl _ (HRA.out w hS) Try.underlying40 rfl (by kernel_rfl)
        refine rg_pure (v := ?_) rfl (by kernel_rfl) (by kernel_rfl) (fun w hS hN => ?_) ?_
        rotate_left 1
        · clear hN
          go_simp
          refine givesP_mk ?_
          with_reducible rfl
        refine rg_pure (v := ?_) rfl (by kernel_rfl) (by kernel_rfl) (fun w hS hN => ?_) ?_
        rotate_left 1
        · have k2 : w.cell? ⟨B, 2, none⟩ = some (.slice (some ⟨bb, ob, none⟩) s'.ps.length h'.qc) := (by rw [← HAB.out]; exact st2 ((HX.out.trans hS).blk HBB.out))
          clear hN
          go_simp
          refine givesP_mk ?_
          with_reducible rfl
        refine rg_pure (v := ?_) rfl (by kernel_rfl) (by kernel_rfl) (fun w hS hN => ?_) ?_
        rotate_left 1
        · clear hN
          go_simp
          refine givesP_mk ?_
          with_reducible rfl
        refine rg_pure (v := ?_) rfl (by kernel_rfl) (by kernel_rfl) (fun w hS hN => ?_) ?_
        rotate_left 1
        · clear hN
          go_simp
          refine givesP_mk ?_
          with_reducible rfl
        refine rg_pure (v := .agg (pL13 y).toArray) rfl (by kernel_rfl) (by kernel_rfl) (fun w hS hN => ?_) ?_
        · clear hN
          exact givesP_loadM 40 _ rfl (bb) (ob + k * 13) (by go_simp) (pL13 y) _ rfl _ (HRB.out w hS) Try.underlying40 rfl (by kernel_rfl)
        refine rg_pure (v := ?_) rfl (by kernel_rfl) (by kernel_rfl) (fun w hS hN => ?_) ?_
        rotate_left 1
        · clear hN
          go_simp
          refine givesP_mk ?_
          with_reducible rfl
        refine rg_done rfl (Nat.le_of_ble_eq_true (by kernel_rfl)) ?_
        intro w8 hS hT
        have HX8 := Lib.hid (HX.out.trans hS)
        clear hT hS hq
        go_simp
        go_wp2
        go_ret
        exact ⟨by rw [HN2.out] <;> rfl, HX2.out.trans HX8.out⟩
    · obtain rfl : k = s.ps.length := by omega
      have HPE : Hid (s.ps = s'.ps) := Lib.hid (eq_of_take HL1.out HEQ.out)
      obtain ⟨wo, rfl⟩ : ∃ wo, wo = wr := ⟨_, rfl⟩
      go_wp2_with fail
      clear qa2
      go_loopw [6] (fun iv wr => ∃ k : Nat, k ≤ s.ms.length ∧ iv = .int .i64 k ∧ s.ms.take k = s'.ms.take k ∧ Ext w2 wr) (fun iv _ => s.ms.length - (intOf iv).toNat)
      case atStart => exact ⟨0, by omega, rfl, rfl, HX.out⟩
      case round =>
        clear HX
        obtain ⟨k, hk, rfl, heq, hx⟩ := hrel
        have HX := Lib.hid hx
        have HEQ := Lib.hid heq
        clear hx heq
        have qa2 : wr.cell? ⟨W0, 3, none⟩ = some (.slice h.ma s.ms.length h.mc) := st3 (HX.out.blk HBA.out)
        by_cases hlt : k < s.ms.length
        · obtain ⟨x, hxa⟩ : ∃ x, s.ms[k]? = some x := ⟨_, List.getElem?_eq_getElem hlt⟩
          obtain ⟨y, hyb⟩ : ∃ y, s'.ms[k]? = some y := ⟨_, List.getElem?_eq_getElem (by have := HL2.out; omega)⟩
          obtain ⟨ba, oa, haa, hba, hra⟩ := HKA.out.ms.range hxa
          obtain ⟨bb, ob, hab, hbb, hrb⟩ := HKB.out.ms.range hyb
          have HAA := Lib.hid haa
          have HAB := Lib.hid hab
          have HRA : Hid (∀ v, Ext wr v → v.rangeAt ba (oa + k * 2) (pairL x)) := Lib.hid fun v hv => range_ext hra hba (HX.out.trans hv)
          have HRB : Hid (∀ v, Ext wr v → v.rangeAt bb (ob + k * 2) (pairL y)) := Lib.hid fun v hv => range_ext hrb hbb (HX.out.trans hv)
          have i0 : (0 : Int) ≤ (k : Int) := by omega
          have i1 : (k : Int) < (s.ms.length : Int) := by omega
          have i2 : (k : Int) < (s'.ms.length : Int) := by have := HL2.out; omega
          have HN : Hid (x ≠ y → r = false) := Lib.hid fun h => HNO.out fun _ => ne_of_get hxa hyb h
          have HY : Hid (x = y → s.ms.take (k + 1) = s'.ms.take (k + 1)) := Lib.hid fun h => take_eq_next HEQ.out hxa (by rw [h]; exact hyb)
          skip
          clear hba hra hbb hrb hxa hyb haa hab
          go_wp2
          clear qa2
          by_cases hxy : x = y
          · have hq : ∀ w, (Op.equalIn 10000 57 (.agg (pairL x).toArray) (.agg (pairL y).toArray)).run Try.prog w = .ok true w := fun w => eqM_run x y true (by simp [hxy]) w
            have HN2 := Lib.hid (HY.out hxy)
            clear hxy
            refine region_rgx ([]) (wr) (by kernel_rfl) (by kernel_rfl) ?_ ?_ ?_
            · exact List.forall_mem_nil _
            · first | assumption | exact Ext.refl _
            refine rg_pure (v := ?_) rfl (by kernel_rfl) (by kernel_rfl) (fun w hS hN => ?_) ?_
            rotate_left 1
            · clear hN
              go_simp
              refine givesP_mk ?_
              with_reducible rfl
            refine rg_pure (v := ?_) rfl (by kernel_rfl) (by kernel_rfl) (fun w hS hN => ?_) ?_
            rotate_left 1
            · have k1 : w.cell? ⟨W0, 3, none⟩ = some (.slice (some ⟨ba, oa, none⟩) s.ms.length h.mc) := (by rw [← HAA.out]; exact st3 ((HX.out.trans hS).blk HBA.out))
              clear hN
              go_simp
              refine givesP_mk ?_
              with_reducible rfl
            refine rg_pure (v := ?_) rfl (by kernel_rfl) (by kernel_rfl) (fun w hS hN => ?_) ?_
            rotate_left 1
            · clear hN
              go_simp
              refine givesP_mk ?_
              with_reducible rfl
            refine rg_pure (v := ?_) rfl (by kernel_rfl) (by kernel_rfl) (fun w hS hN => ?_) ?_
            rotate_left 1
            · clear hN
              go_simp
              refine givesP_mk ?_
              with_reducible rfl
            refine rg_pure (v := .agg (pairL x).toArray) rfl (by kernel_rfl) (by kernel_rfl) (fun w hS hN => ?_) ?_
            · clear hN
              exact givesP_loadM 57 _ rfl (ba) (oa + k * 2) (by go_simp) (pairL x) _ rfl _ (HRA.out w hS) Try.underlying57 rfl (by kernel_rfl)
            refine rg_pure (v := ?_) rfl (by kernel_rfl) (by kernel_rfl) (fun w hS hN => ?_) ?_
            rotate_left 1
            · clear hN
              go_simp
              refine givesP_mk ?_
              with_reducible rfl
            refine rg_pure (v := ?_) rfl (by kernel_rfl) (by kernel_rfl) (fun w hS hN => ?_) ?_
            rotate_left 1
            · have k2 : w.cell? ⟨B, 3, none⟩ = some (.slice (some ⟨bb, ob, none⟩) s'.ms.length h'.mc) := (by rw [← HAB.out]; exact st3 ((HX.out.trans hS).blk HBB.out))
              clear hN
              go_simp
              refine givesP_mk ?_
              with_reducible rfl
            refine rg_pure (v := ?_) rfl (by kernel_rfl) (by kernel_rfl) (fun w hS hN => ?_) ?_
            rotate_left 1
            · clear hN
              go_simp
              refine givesP_mk ?_
              with_reducible rfl
            refine rg_pure (v := ?_) rfl (by kernel_rfl) (by kernel_rfl) (fun w hS hN => ?_) ?_
            rotate_left 1
            · clear hN
              go_simp
              refine givesP_mk ?_
              with_reducible rfl
            refine rg_pure (v := .agg (pairL y).toArray) rfl (by kernel_rfl) (by kernel_rfl) (fun w hS hN => ?_) ?_
            · clear hN
              exact givesP_loadM 57 _ rfl (bb) (ob + k * 2) (by go_simp) (pairL y) _ rfl _ (HRB.out w hS) Try.underlying57 rfl (by kernel_rfl)
            refine rg_pure (v := ?_) rfl (by kernel_rfl) (by kernel_rfl) (fun w hS hN => ?_) ?_
            rotate_left 1
            · clear hN
              go_simp
              refine givesP_mk ?_
              with_reducible rfl
            refine rg_done rfl (Nat.le_of_ble_eq_true (by kernel_rfl)) ?_
            intro w8 hS hT
            have HX8 := Lib.hid (HX.out.trans hS)
            clear hT hS hq i1 i2
            go_simp
            go_wp2
            go_roundw
            case rel => exact ⟨k + 1, by omega, by go_num, HN2.out, HX8.out⟩
            case measure => simp [intOf]; omega
          · have hq : ∀ w, (Op.equalIn 10000 57 (.agg (pairL x).toArray) (.agg (pairL y).toArray)).run Try.prog w = .ok false w := fun w => eqM_run x y false (by simp [hxy]) w
            have HN2 := Lib.hid (HN.out hxy)
            clear hxy
            refine region_rgx ([]) (wr) (by kernel_rfl) (by kernel_rfl) ?_ ?_ ?_
            · exact List.forall_mem_nil _
            · first | assumption | exact Ext.refl _
            refine rg_pure (v := ?_) rfl (by kernel_rfl) (by kernel_rfl) (fun w hS hN => ?_) ?_
            rotate_left 1
            · clear hN
              go_simp
              refine givesP_mk ?_
              with_reducible rfl
            refine rg_pure (v := ?_) rfl (by kernel_rfl) (by kernel_rfl) (fun w hS hN => ?_) ?_
            rotate_left 1
            · have k1 : w.cell? ⟨W0, 3, none⟩ = some (.slice (some ⟨ba, oa, none⟩) s.ms.length h.mc) := (by rw [← HAA.out]; exact st3 ((HX.out.trans hS).blk HBA.out))
              clear hN
              go_simp
              refine givesP_mk ?_
              with_reducible rfl
            refine rg_pure (v := ?_) rfl (by kernel_rfl) (by kernel_rfl) (fun w hS hN => ?_) ?_
            rotate_left 1
            · clear hN
              go_simp
              refine givesP_mk ?_
              with_reducible rfl
            refine rg_pure (v := ?_) rfl (by kernel_rfl) (by kernel_rfl) (fun w hS hN => ?_) ?_
            rotate_left 1
            · clear hN
              go_simp
              refine givesP_mk ?_
              with_reducible rfl
            refine rg_pure (v := .agg (pairL x).toArray) rfl (by kernel_rfl) (by kernel_rfl) (fun w hS hN => ?_) ?_
            · clear hN
              exact givesP_loadM 57 _ rfl (ba) (oa + k * 2) (by go_simp) (pairL x) _ rfl _ (HRA.out w hS) Try.underlying57 rfl (by kernel_rfl)
            refine rg_pure (v := ?_) rfl (by kernel_rfl) (by kernel_rfl) (fun w hS hN => ?_) ?_
            rotate_left 1
            · clear hN
              go_simp
              refine givesP_mk ?_
              with_reducible rfl
            refine rg_pure (v := ?_) rfl (by kernel_rfl) (by kernel_rfl) (fun w hS hN => ?_) ?_
            rotate_left 1
            · have k2 : w.cell? ⟨B, 3, none⟩ = some (.slice (some ⟨bb, ob, none⟩) s'.ms.length h'.mc) := (by rw [← HAB.out]; exact st3 ((HX.out.trans hS).blk HBB.out))
              clear hN
              go_simp
              refine givesP_mk ?_
              with_reducible rfl
            refine rg_pure (v := ?_) rfl (by kernel_rfl) (by kernel_rfl) (fun w hS hN => ?_) ?_
            rotate_left 1
            · clear hN
              go_simp
              refine givesP_mk ?_
              with_reducible rfl
            refine rg_pure (v := ?_) rfl (by kernel_rfl) (by kernel_rfl) (fun w hS hN => ?_) ?_
            rotate_left 1
            · clear hN
              go_simp
              refine givesP_mk ?_
              with_reducible rfl
            refine rg_pure (v := .agg (pairL y).toArray) rfl (by kernel_rfl) (by kernel_rfl) (fun w hS hN => ?_) ?_
            · clear hN
              exact givesP_loadM 57 _ rfl (bb) (ob + k * 2) (by go_simp) (pairL y) _ rfl _ (HRB.out w hS) Try.underlying57 rfl (by kernel_rfl)
            refine rg_pure (v := ?_) rfl (by kernel_rfl) (by kernel_rfl) (fun w hS hN => ?_) ?_
            rotate_left 1
            · clear hN
              go_simp
              refine givesP_mk ?_
              with_reducible rfl
            refine rg_done rfl (Nat.le_of_ble_eq_true (by kernel_rfl)) ?_
            intro w8 hS hT
            have HX8 := Lib.hid (HX.out.trans hS)
            clear hT hS hq
            go_simp
            go_wp2
            go_ret
            exact ⟨by rw [HN2.out] <;> rfl, HX2.out.trans HX8.out⟩
        · obtain rfl : k = s.ms.length := by omega
          have HY : Hid (r = true) := Lib.hid (HR.out.2 ⟨HPE.out, eq_of_take HL2.out HEQ.out⟩)
          go_wp2
          go_ret
          exact ⟨by rw [HY.out] <;> rfl, HX2.out.trans HX.out⟩
end Go.Proofs.Ytogcfndhcphpaaa
