/-
  Several texts in one: Tq, Ts, Tt, Th.
-/
import Derived.Test.YtdcbaddndoilfaaE04
import Derived.Test.YtdcbaddndoilfaaE11
import Derived.Test.YtdcbaddndoilfaaE05
set_option linter.unusedVariables false
set_option linter.unusedSimpArgs false
namespace Go.Proofs.Ytdcbaddndoilfaa
open Go.RowKit
def St.wanted (st : Int) : Int × Int × Int := if st = 1 then (1, 0, 0) else if st = 3 then (0, 1, 0) else if st = 2 ∨ st = 4 then (0, 0, 1) else (0, 0, 0)
def spotV (q : Int × Int × Int) : Value := .agg #[.int .i64 q.1, .int .i64 q.2.1, .int .i64 q.2.2]
theorem ret_spot {a : Act} {w0 w : World} {x y z : Int} (hp : a.tmps.getD 2 undef = .pointer (some ⟨w0.heap.size, 0, none⟩)) (hd : a.defers = []) (hb : w.heap[w0.heap.size]? = some (.cells #[.int .i64 x, .int .i64 y, .int .i64 z] 126 (0, 0))) (hx : Ext w0 w) {q : Int × Int × Int} (hq : q = (x, y, z)) :
    bodyPost Try.prog Try.f91 (fun e w' => e = .returned (spotV q) ∧ Ext w0 w') .ret a w := by
  subst hq
  exact bodyPost_ret (v := .agg #[.int .i64 x, .int .i64 y, .int .i64 z]) (results_cell_row rfl _ _ w0.heap.size _ _ _ _ hp hb Try.underlying126 rfl (by kernel_rfl)) hd ⟨rfl, hx⟩
set_option maxRecDepth 100000 in
set_option maxHeartbeats 2000000 in
theorem swanted_any (st : Int) (w : World) : Calls Try.prog 91 #[.int .i64 st] w fun e w' => e = .returned (spotV (St.wanted st)) ∧ Ext w w' := by
  by_cases h1 : st = 1
  · subst h1
    have HQ : Hid (St.wanted 1 = (1, 0, 0)) := Lib.hid (by unfold St.wanted; rw [if_pos rfl])
    go_enter Try.func91, Try.ntmps91
    go_wp2
    exact ret_spot rfl rfl (blk_new w _) ((Ext.refl w).alloc _) HQ.out
  · have e1 : (st == 1) = false := by simpa using h1
    by_cases h3 : st = 3
    · subst h3
      have HQ : Hid (St.wanted 3 = (0, 1, 0)) := Lib.hid (by unfold St.wanted; rw [if_neg (by decide), if_pos rfl])
      clear h1 e1
      go_enter Try.func91, Try.ntmps91
      go_wp2
      exact ret_spot rfl rfl (blk_new w _) ((Ext.refl w).alloc _) HQ.out
    · have e3 : (st == 3) = false := by simpa using h3
      by_cases h2 : st = 2
      · subst h2
        have HQ : Hid (St.wanted 2 = (0, 0, 1)) := Lib.hid (by unfold St.wanted; rw [if_neg (by decide), if_neg (by decide), if_pos (.inl rfl)])
        clear h1 e1 h3 e3
        go_enter Try.func91, Try.ntmps91
        go_wp2
        exact ret_spot rfl rfl (blk_new w _) ((Ext.refl w).alloc _) HQ.out
      · have e2 : (st == 2) = false := by simpa using h2
        by_cases h4 : st = 4
        · subst h4
          have HQ : Hid (St.wanted 4 = (0, 0, 1)) := Lib.hid (by unfold St.wanted; rw [if_neg (by decide), if_neg (by decide), if_pos (.inr rfl)])
          clear h1 e1 h3 e3 h2 e2
          go_enter Try.func91, Try.ntmps91
          go_wp2
          exact ret_spot rfl rfl (blk_new w _) ((Ext.refl w).alloc _) HQ.out
        · have e4 : (st == 4) = false := by simpa using h4
          have HQ : Hid (St.wanted st = (0, 0, 0)) := Lib.hid (by unfold St.wanted; rw [if_neg h1, if_neg h3, if_neg (by omega)])
          clear h1 h2 h3 h4
          go_enter Try.func91, Try.ntmps91
          go_wp2
          exact ret_spot rfl rfl (blk_new w _) ((Ext.refl w).alloc _) HQ.out
def l3 (R W M : List Int) : Nat → List Int := fun f => match f with | 0 => R | 1 => W | _ => M
def allW (L : Nat → List Int) (n : Nat) : Bool := St.within (L 0) n && St.within (L 1) n && St.within (L 2) n
structure CenAt (w : World) (cb db n : Nat) (L : Nat → List Int) : Prop where
  box : w.heap[cb]? = some (.cells #[.slice (some ⟨db, 0, none⟩) n n, .bool (!allW L n)] 124 (0, 0))
  row : ∃ X, w.heap[db]? = some (.cells X 126 (0, 0)) ∧ X.size = n * 3 ∧ ∀ i, i < n → ∀ f, f < 3 → X[i * 3 + f]? = some (.int .i64 (St.times (L f) ((i : Int) + 1)))
  ne : cb ≠ db
theorem CenAt.cell {w : World} {cb db n : Nat} {L : Nat → List Int} (h : CenAt w cb db n L) {i f : Nat} (hi : i < n) (hf : f < 3) : w.cell? ⟨db, i * 3 + f, none⟩ = some (.int .i64 (St.times (L f) ((i : Int) + 1))) := by
  obtain ⟨X, hX, hs, hc⟩ := h.row
  exact blk_cell hX _ _ (hc i hi f hf)
theorem CenAt.ext {w w' : World} {cb db n : Nat} {L : Nat → List Int} (h : CenAt w cb db n L) (hx : Ext w w') : CenAt w' cb db n L := by
  obtain ⟨X, hX, hs, hc⟩ := h.row
  exact ⟨hx.blk h.box, ⟨X, hx.blk hX, hs, hc⟩, h.ne⟩
def upd3 (L : Nat → List Int) (f : Nat) (g : Int) : Nat → List Int := fun j => if j = f then L f ++ [g] else L j
theorem upd3_0 (R W M : List Int) (g : Int) : upd3 (l3 R W M) 0 g = l3 (R ++ [g]) W M := by
  funext j; match j with | 0 => rfl | 1 => rfl | _ + 2 => rfl
theorem upd3_1 (R W M : List Int) (g : Int) : upd3 (l3 R W M) 1 g = l3 R (W ++ [g]) M := by
  funext j; match j with | 0 => rfl | 1 => rfl | _ + 2 => rfl
theorem upd3_2 (R W M : List Int) (g : Int) (n : Nat) {w : World} {cb db : Nat} (h : CenAt w cb db n (upd3 (l3 R W M) 2 g)) : CenAt w cb db n (l3 R W (M ++ [g])) :=
  ⟨h.box, by
    obtain ⟨X, hX, hs, hc⟩ := h.row
    refine ⟨X, hX, hs, fun i hi f hf => ?_⟩
    have := hc i hi f hf
    match f, hf with
    | 0, _ => exact this
    | 1, _ => exact this
    | 2, _ => exact this, h.ne⟩
theorem within_snoc (l : List Int) (g n : Int) : St.within (l ++ [g]) n = (St.within l n && decide (1 ≤ g ∧ g ≤ n)) := by
  unfold St.within; rw [List.all_append]; simp
theorem allW_upd {L : Nat → List Int} {f : Nat} (hf : f < 3) (g : Int) (n : Nat) : allW (upd3 L f g) n = (allW L n && decide (1 ≤ g ∧ g ≤ n)) := by
  unfold allW
  match f, hf with
  | 0, _ => simp only [upd3, if_pos, within_snoc]; generalize decide (1 ≤ g ∧ g ≤ (n : Int)) = b; cases b <;> simp
  | 1, _ => simp only [upd3, if_pos, within_snoc]; generalize decide (1 ≤ g ∧ g ≤ (n : Int)) = b; cases b <;> simp
  | 2, _ => simp only [upd3, if_pos, within_snoc]; generalize decide (1 ≤ g ∧ g ≤ (n : Int)) = b; cases b <;> simp
theorem CenAt.bump {w : World} {cb db n : Nat} {L : Nat → List Int} (h : CenAt w cb db n L) {k f : Nat} (hk : k < n) (hf : f < 3) : CenAt (w.setCell ⟨db, k * 3 + f, none⟩ (.int .i64 ((St.times (L f) ((k : Int) + 1) : Nat) + 1))) cb db n (upd3 L f ((k : Int) + 1)) := by
  obtain ⟨X, hX, hs, hc⟩ := h.row
  refine ⟨?_, ⟨_, blk_set hX _ _, by simpa using hs, fun i hi j hj => ?_⟩, h.ne⟩
  · rw [allW_upd hf, decide_eq_true (show 1 ≤ (k : Int) + 1 ∧ (k : Int) + 1 ≤ (n : Int) by omega), Bool.and_true]
    exact blk_set_other h.box _ (Ne.symm h.ne) _
  · by_cases he : j = f
    · subst he
      by_cases hik : i = k
      · subst hik
        rw [Array.getElem?_setIfInBounds_self_of_lt (by omega)]
        simp only [upd3, if_pos]
        rw [times_snoc, if_pos rfl]
        rfl
      · rw [Array.getElem?_setIfInBounds_ne (by omega), hc i hi j hj]
        simp only [upd3, if_pos]
        rw [times_snoc, if_neg (by omega), Nat.add_zero]
    · rw [Array.getElem?_setIfInBounds_ne (by omega), hc i hi j hj]
      simp only [upd3, if_neg he]
theorem CenAt.spoil {w : World} {cb db n : Nat} {L : Nat → List Int} (h : CenAt w cb db n L) {g : Int} {f : Nat} (hg : ¬ (1 ≤ g ∧ g ≤ n)) (hf : f < 3) : CenAt (w.setCell ⟨cb, 1, none⟩ (.bool true)) cb db n (upd3 L f g) := by
  obtain ⟨X, hX, hs, hc⟩ := h.row
  refine ⟨?_, ⟨_, blk_set_other hX _ h.ne _, hs, fun i hi j hj => ?_⟩, h.ne⟩
  · rw [allW_upd hf, decide_eq_false hg, Bool.and_false]
    exact blk_set h.box 1 _
  · rw [hc i hi j hj]
    by_cases he : j = f
    · subst he
      simp only [upd3, if_pos]
      rw [times_snoc, if_neg (by omega), Nat.add_zero]
    · simp only [upd3, if_neg he]
theorem CenAt.setOther {w : World} {cb db n : Nat} {L : Nat → List Int} (h : CenAt w cb db n L) {b i : Nat} (h1 : b ≠ cb) (h2 : b ≠ db) (u : Value) : CenAt (w.setCell ⟨b, i, none⟩ u) cb db n L := by
  obtain ⟨X, hX, hs, hc⟩ := h.row
  exact ⟨blk_set_other h.box _ h1 _, ⟨X, blk_set_other hX _ h2 _, hs, hc⟩, h.ne⟩
def SpotP (cb db n : Nat) (R W M : List Int) (g : Int) (w : World) (e : Ending) (w' : World) : Prop :=
  ∃ b o c0 c1 c2, e = .returned (.pointer (some ⟨b, o, none⟩)) ∧ (w'.cell? ⟨b, o, none⟩ = some (.int .i64 c0) ∧ w'.cell? ⟨b, o + 1, none⟩ = some (.int .i64 c1) ∧ w'.cell? ⟨b, o + 2, none⟩ = some (.int .i64 c2) ∧ ∀ i, w'.frozen? ⟨b, i, none⟩ = false) ∧ (0 ≤ c0 ∧ c0 ≤ 100000000 ∧ 0 ≤ c1 ∧ c1 ≤ 100000000 ∧ 0 ≤ c2 ∧ c2 ≤ 100000000) ∧
    CenAt (w'.setCell ⟨b, o, none⟩ (.int .i64 (c0 + 1))) cb db n (l3 (R ++ [g]) W M) ∧ CenAt (w'.setCell ⟨b, o + 1, none⟩ (.int .i64 (c1 + 1))) cb db n (l3 R (W ++ [g]) M) ∧ CenAt (w'.setCell ⟨b, o + 2, none⟩ (.int .i64 (c2 + 1))) cb db n (l3 R W (M ++ [g])) ∧
    (∀ i u, But (fun k => k = cb ∨ k = db) w (w'.setCell ⟨b, i, none⟩ u))
theorem spotP_good {cb db n : Nat} {R W M : List Int} {w : World} (h : CenAt w cb db n (l3 R W M)) {k : Nat} (hk : k < n) (hl : R.length ≤ 100000000 ∧ W.length ≤ 100000000 ∧ M.length ≤ 100000000) : SpotP cb db n R W M ((k : Int) + 1) w (.returned (.pointer (some ⟨db, k * 3, none⟩))) w := by
  have t0 := times_le R ((k : Int) + 1)
  have t1 := times_le W ((k : Int) + 1)
  have t2 := times_le M ((k : Int) + 1)
  refine ⟨db, k * 3, St.times R ((k : Int) + 1), St.times W ((k : Int) + 1), St.times M ((k : Int) + 1), rfl, ⟨h.cell hk (f := 0) (by omega), h.cell hk (f := 1) (by omega), h.cell hk (f := 2) (by omega), fun i => by obtain ⟨X, hX, _⟩ := h.row; exact frozen_of_row _ _ i _ _ hX⟩, by omega, ?_, ?_, ?_, fun i u => But.upd ((Upd.refl db w).set i u) (.inr rfl)⟩
  · have := h.bump hk (f := 0) (by omega); rw [upd3_0] at this; exact this
  · have := h.bump hk (f := 1) (by omega); rw [upd3_1] at this; exact this
  · exact upd3_2 _ _ _ _ _ (h.bump hk (f := 2) (by omega))
theorem spotP_bad {cb db n : Nat} {R W M : List Int} {w : World} (h : CenAt w cb db n (l3 R W M)) {g : Int} (hg : ¬ (1 ≤ g ∧ g ≤ n)) {w' : World} (hw : w' = (w.setCell ⟨cb, 1, none⟩ (.bool true)).alloc (.cells #[.int .i64 0, .int .i64 0, .int .i64 0] 126)) : SpotP cb db n R W M g w (.returned (.pointer (some ⟨w.heap.size, 0, none⟩))) w' := by
  have hs : (w.setCell ⟨cb, 1, none⟩ (.bool true)).heap.size = w.heap.size := by simp [World.setCell]
  have hb : w'.heap[w.heap.size]? = some (.cells #[.int .i64 0, .int .i64 0, .int .i64 0] 126 (0, 0)) := by
    rw [hw]
    have := blk_new (w.setCell ⟨cb, 1, none⟩ (.bool true)) (.cells #[.int .i64 0, .int .i64 0, .int .i64 0] 126)
    rwa [hs] at this
  have hcb := blk_lt h.box
  have hdb : db < w.heap.size := by obtain ⟨X, hX, _⟩ := h.row; exact blk_lt hX
  have hk : ∀ f, f < 3 → CenAt w' cb db n (upd3 (l3 R W M) f g) := fun f hf => by rw [hw]; exact (h.spoil hg hf).ext ((Ext.refl _).alloc _)
  refine ⟨w.heap.size, 0, 0, 0, 0, rfl, ⟨blk_cell hb 0 _ rfl, blk_cell hb 1 _ rfl, blk_cell hb 2 _ rfl, fun i => frozen_of_row _ _ i _ _ hb⟩, by omega, ?_, ?_, ?_, fun i u => ?_⟩
  · have := (hk 0 (by omega)).setOther (i := 0) (b := w.heap.size) (by omega) (by omega) (.int .i64 (0 + 1)); rw [upd3_0] at this; exact this
  · have := (hk 1 (by omega)).setOther (i := 0 + 1) (b := w.heap.size) (by omega) (by omega) (.int .i64 (0 + 1)); rw [upd3_1] at this; exact this
  · exact upd3_2 _ _ _ _ _ ((hk 2 (by omega)).setOther (i := 0 + 2) (b := w.heap.size) (by omega) (by omega) (.int .i64 (0 + 1)))
  · rw [hw]
    exact But.upd ((((Upd.refl cb w).set 1 _).trans (Upd.ext ((Ext.refl _).alloc _))).newset (p := ⟨w.heap.size, i, none⟩) (Nat.le_refl _) u) (.inl rfl)
set_option maxRecDepth 100000 in
set_option maxHeartbeats 1000000 in
theorem sof_any (cb db n : Nat) (R W M : List Int) (g : Int) (w : World) (h : CenAt w cb db n (l3 R W M)) (hn : n ≤ 100000000) (hl : R.length ≤ 100000000 ∧ W.length ≤ 100000000 ∧ M.length ≤ 100000000) : Calls Try.prog 105 #[.pointer (some ⟨cb, 0, none⟩), .int .i64 g] w (SpotP cb db n R W M g w) := by
  have H := Lib.hid h
  have hb := h.box
  have q0 : w.cell? ⟨cb, 0, none⟩ = some (.slice (some ⟨db, 0, none⟩) n n) := blk_cell hb 0 _ rfl
  have HL := Lib.hid hl
  have HB := Lib.hid hb
  clear h hb hl
  by_cases h1 : g < 1
  · have HP : Hid (∀ w', w' = (w.setCell ⟨cb, 1, none⟩ (.bool true)).alloc (.cells #[.int .i64 0, .int .i64 0, .int .i64 0] 126) → SpotP cb db n R W M g w (.returned (.pointer (some ⟨w.heap.size, 0, none⟩))) w') := Lib.hid fun w' hw' => spotP_bad H.out (by omega) hw'
    have q1 : w.cell? ⟨cb, 1, none⟩ = some (.bool (!allW (l3 R W M) n)) := blk_cell HB.out 1 _ rfl
    have q2 := frozen_of_row _ _ 1 _ _ HB.out
    go_enter Try.func105, Try.ntmps105
    go_wp2
    go_ret
    exact HP.out _ rfl
  · by_cases h2 : (n : Int) < g
    · have HP : Hid (∀ w', w' = (w.setCell ⟨cb, 1, none⟩ (.bool true)).alloc (.cells #[.int .i64 0, .int .i64 0, .int .i64 0] 126) → SpotP cb db n R W M g w (.returned (.pointer (some ⟨w.heap.size, 0, none⟩))) w') := Lib.hid fun w' hw' => spotP_bad H.out (by omega) hw'
      have q1 : w.cell? ⟨cb, 1, none⟩ = some (.bool (!allW (l3 R W M) n)) := blk_cell HB.out 1 _ rfl
      have q2 := frozen_of_row _ _ 1 _ _ HB.out
      have h1' : decide (g < 1) = false := by simpa using h1
      clear h1
      go_enter Try.func105, Try.ntmps105
      go_wp2
      go_ret
      exact HP.out _ rfl
    · obtain ⟨k, rfl⟩ : ∃ k : Nat, g = (k : Int) + 1 := ⟨(g - 1).toNat, by omega⟩
      have hk : (k : Int) < (n : Int) := by omega
      have HP := Lib.hid (spotP_good H.out (k := k) (by omega) HL.out)
      have e1 : (k : Int) + 1 - 1 = (k : Int) := by omega
      have e2 : ¬ (n : Int) < (k : Int) + 1 := by omega
      clear h1 h2
      go_enter Try.func105, Try.ntmps105
      go_wp2
      go_ret
      exact HP.out
def St.onAll (s : St) : List Int := (s.ms.filter fun m => m.2 != 0).map Prod.snd
theorem Try.infoSpots : (Try.prog.info? 126).map (fun i => (i.zero, i.size, i.bytes)) = some (some (.agg #[.int .i64 0, .int .i64 0, .int .i64 0]), 3, 24) := by kernel_rfl
theorem made3 (n i f : Nat) (hi : i < n) (hf : f < 3) : (madeCells #[.int .i64 0, .int .i64 0, .int .i64 0] (n * 3))[i * 3 + f]? = some (.int .i64 0) := by
  have h1 : i * 3 + f < n * 3 := by omega
  simp only [madeCells, Array.getElem?_map, Array.getElem?_range, h1]
  have h2 : (i * 3 + f) % 3 = f := by omega
  match f, hf with
  | 0, _ => simp
  | 1, _ => simp
  | 2, _ => simp
theorem census_new (w : World) (n : Nat) (w2 w3 : World) (h2 : w2 = w.alloc (.cells (madeCells #[.int .i64 0, .int .i64 0, .int .i64 0] (n * 3)) 126)) (h3 : w3 = w2.alloc (.cells #[.slice (some ⟨w.heap.size, 0, none⟩) n n, .bool false] 124)) : CenAt w3 w2.heap.size w.heap.size n (l3 [] [] []) := by
  have hs : w2.heap.size = w.heap.size + 1 := by rw [h2, World.size_alloc]
  refine ⟨by rw [h3]; exact blk_new w2 _, ⟨_, by rw [h3]; exact blk_alloc (by rw [h2]; exact blk_new w _) _, size_madeCells _ _, fun i hi f hf => ?_⟩, by omega⟩
  rw [made3 n i f hi hf]
  match f, hf with
  | 0, _ => rfl
  | 1, _ => rfl
  | 2, _ => rfl
theorem take_next {α : Type} {l : List α} {k : Nat} {x : α} (h : l[k]? = some x) : l.take (k + 1) = l.take k ++ [x] := by
  obtain ⟨h1, h2⟩ := List.getElem?_eq_some_iff.1 h
  rw [List.take_succ_eq_append_getElem h1, h2]
def CRnd (w1 : World) (cb db n : Nat) (R W M : List Int) (w : World) : Prop := CenAt w cb db n (l3 R W M) ∧ Ext w1 w
theorem CRnd.ext {w1 w w' : World} {cb db n : Nat} {R W M : List Int} (h : CRnd w1 cb db n R W M w) (hx : Ext w w') : CRnd w1 cb db n R W M w' := ⟨h.1.ext hx, h.2.trans hx⟩
theorem St.runs_few {s : St} (hf : StFew s) (k j : Nat) : ((s.ps.take k).flatMap St.queueOf).length + j ≤ 900000 + j := by
  have := flatMap_len9 (s.ps.take k)
  rw [List.length_take] at this
  have := hf.ps
  omega
theorem St.wts_len {s : St} (hf : StFew s) (k : Nat) : ((s.wts.take k).flatten).length ≤ 400000 := by
  have := flatten_few (l := s.wts.take k) fun x hx => by
    obtain ⟨j, hj⟩ := List.mem_iff_getElem?.1 (List.mem_of_mem_take hx)
    exact wts_few hf.w hj
  have h4 : (s.wts.take k).length ≤ 4 := by rw [List.length_take]; simp [St.wts]; omega
  omega
theorem CenAt.lt {w : World} {cb db n : Nat} {L : Nat → List Int} (h : CenAt w cb db n L) : cb < w.heap.size ∧ db < w.heap.size := by
  obtain ⟨X, hX, _⟩ := h.row
  exact ⟨blk_lt h.box, blk_lt hX⟩
set_option maxRecDepth 100000 in
set_option maxHeartbeats 16000000 in
theorem scount_any (h : StH) (s : St) (w : World) (hk : StOk w h s) (hf : StFew s) : Calls Try.prog 90 #[stV h s] w fun e w' => ∃ cb db, e = .returned (.pointer (some ⟨cb, 0, none⟩)) ∧ CenAt w' cb db s.gs.length (l3 s.runs s.waiters s.onAll) ∧ Ext w w' := by
  have f0 := hf.gs
  have f1 := hf.ps
  have f2 := hf.glob
  have f3 := hf.timers
  have f4 := hf.ms
  have F2 := Lib.hid hf.w
  have HFW := Lib.hid hf
  have HK := Lib.hid hk
  obtain ⟨w1, hw1⟩ : ∃ w1, w.alloc (.cells #[.slice h.pa s.prog.length h.pc, .slice h.ga s.gs.length h.gc, .slice h.qa s.ps.length h.qc, .slice h.ma s.ms.length h.mc, .slice h.la s.glob.length h.lc, .int .i64 s.c0, .int .i64 s.c1, .int .i64 s.c2, .int .i64 s.c3, .slice h.a0 s.w0.length h.k0, .slice h.a1 s.w1.length h.k1, .slice h.a2 s.w2.length h.k2, .slice h.a3 s.w3.length h.k3, .slice h.ta s.timers.length h.tc, .int .i64 s.clock, .int .i64 s.procs] 47) = w1 := ⟨_, rfl⟩
  have HX1 : Hid (Ext w w1) := Lib.hid (by rw [← hw1]; exact (Ext.refl w).alloc _)
  have HB1 : Hid (w1.heap[w.heap.size]? = some (.cells (stC h s) 47 (0, 0))) := Lib.hid (by rw [← hw1]; exact blk_new w _)
  have HK1 := Lib.hid (hk.ext HX1.out)
  have HW1 := Lib.hid hw1
  clear hw1 hk
  have HKN := Lib.hid (rfl : s.gs.length = s.gs.length)
  obtain ⟨i0, I0, I1, I2, I3⟩ := info_parts Try.infoSpots
  have hmk : (Instr.makeSlice 122 (.int .i64 (s.gs.length : Int)) (.int .i64 (s.gs.length : Int))).run Try.prog w1 = .ok (.slice (some ⟨w1.heap.size, 0, none⟩) s.gs.length s.gs.length) (w1.alloc (.cells (madeCells #[.int .i64 0, .int .i64 0, .int .i64 0] (s.gs.length * 3)) 126)) := by
    have := run_make (P := Try.prog) w1 122 126 i0 (.agg #[.int .i64 0, .int .i64 0, .int .i64 0]) Try.underlying122 I0 I1 .i64 .i64 (s.gs.length : Int) (s.gs.length : Int) (by omega) (by omega) (by rw [I3]; omega) (by omega)
    rw [I2] at this
    simp only [Int.toNat_natCast] at this
    exact this
  obtain ⟨w2, hw2⟩ : ∃ w2, w1.alloc (.cells (madeCells #[.int .i64 0, .int .i64 0, .int .i64 0] (s.gs.length * 3)) 126) = w2 := ⟨_, rfl⟩
  obtain ⟨db, hdb⟩ : ∃ db, w1.heap.size = db := ⟨_, rfl⟩
  obtain ⟨w3, hw3⟩ : ∃ w3, w2.alloc (.cells #[.slice (some ⟨db, 0, none⟩) s.gs.length s.gs.length, .bool false] 124) = w3 := ⟨_, rfl⟩
  obtain ⟨cb, hcb⟩ : ∃ cb, w2.heap.size = cb := ⟨_, rfl⟩
  have HC3 : Hid (CRnd w1 cb db s.gs.length [] [] [] w3) := Lib.hid (by
    have := census_new w1 s.gs.length w2 w3 hw2.symm (by rw [hdb]; exact hw3.symm)
    rw [hdb, hcb] at this
    exact ⟨this, by rw [← hw3, ← hw2]; exact ((Ext.refl w1).alloc _).alloc _⟩)
  have hd1 : w1.heap.size ≤ db := by omega
  have hc1 : w1.heap.size ≤ cb := by rw [← hcb, ← hw2, World.size_alloc]; omega
  have HD1 := Lib.hid hd1
  have HC1 := Lib.hid hc1
  rw [hw2, hdb] at hmk
  have HW3 := Lib.hid hw3
  have HCB := Lib.hid hcb
  have q1 := st1 HB1.out
  have q2 := st2 (HC3.out.2.blk HB1.out)
  have HCL : Hid (cb < w3.heap.size ∧ db < w3.heap.size) := Lib.hid HC3.out.1.lt
  clear hw2 hw3 hcb hd1 hc1 hdb hf I0 I1 I2 I3
  unfold stV
  go_enter Try.func90, Try.ntmps90
  go_upto_region 1 with fail
  rw [HW1.out]
  generalize Value.agg #[.slice h.pa s.prog.length h.pc, .slice h.ga s.gs.length h.gc, .slice h.qa s.ps.length h.qc, .slice h.ma s.ms.length h.mc, .slice h.la s.glob.length h.lc, .int .i64 s.c0, .int .i64 s.c1, .int .i64 s.c2, .int .i64 s.c3, .slice h.a0 s.w0.length h.k0, .slice h.a1 s.w1.length h.k1, .slice h.a2 s.w2.length h.k2, .slice h.a3 s.w3.length h.k3, .slice h.ta s.timers.length h.tc, .int .i64 s.clock, .int .i64 s.procs] = sv0
  go_wp2_with (rw [HW3.out])
  rw [HCB.out]
  clear q1 q2 hmk
  obtain ⟨qa, hqa⟩ : ∃ qa, h.qa = qa := ⟨_, rfl⟩
  have HQA := Lib.hid hqa
  rw [hqa]
  clear hqa
  go_loopw [27] (fun iv wr => ∃ k : Nat, k ≤ s.ps.length ∧ iv = .int .i64 k ∧ CRnd w1 cb db s.gs.length ((s.ps.take k).flatMap St.queueOf) [] [] wr) (fun iv _ => s.ps.length - (intOf iv).toNat)
  case atStart => exact ⟨0, by omega, rfl, HC3.out⟩
  case round =>
    obtain ⟨k, hk, rfl, hc⟩ := hrel
    have HC := Lib.hid hc
    clear hc
    by_cases hlt : k < s.ps.length
    · obtain ⟨p, hp⟩ : ∃ p, s.ps[k]? = some p := ⟨_, List.getElem?_eq_getElem hlt⟩
      obtain ⟨m, nx, r, sq⟩ := p
      obtain ⟨b0, b1, b2, b3, b4, b5, b6, b7, hd, nn, rfl⟩ := Ri.open8 (HK.out.buf _ (List.mem_of_getElem? hp))
      obtain ⟨b, o, hA, hb, hc⟩ := ps_get (HK1.out.ext HC.out.2).ps hp
      rw [HQA.out] at hA
      subst hA
      obtain ⟨⟨p0, p1, p2, p3, p4, p5, p6⟩, p7, p8, p9, p10, p11, p12⟩ := hc
      obtain ⟨q, hq⟩ : ∃ q, St.queueOf ⟨m, nx, ⟨[b0, b1, b2, b3, b4, b5, b6, b7], hd, nn⟩, sq⟩ = q := ⟨_, rfl⟩
      have HF : Hid ((s.ps.take (k + 1)).flatMap St.queueOf = (s.ps.take k).flatMap St.queueOf ++ q) := Lib.hid (by rw [← hq]; exact flatMap_next St.queueOf hp)
      have HQ9 : Hid (q.length ≤ 9) := Lib.hid (by rw [← hq]; exact queueOf_len _)
      obtain ⟨w4, hw4⟩ : ∃ w4, wr.alloc (.cells #[.int .i64 m, .int .i64 nx, .int .i64 b0, .int .i64 b1, .int .i64 b2, .int .i64 b3, .int .i64 b4, .int .i64 b5, .int .i64 b6, .int .i64 b7, .int .i64 hd, .int .i64 nn, .int .i64 sq] 77) = w4 := ⟨_, rfl⟩
      have HW4 := Lib.hid hw4
      have HX4 : Hid (Ext wr w4) := Lib.hid (by rw [← hw4]; exact (Ext.refl wr).alloc _)
      have HB4 : Hid (w4.heap[wr.heap.size]? = some (.cells #[.int .i64 m, .int .i64 nx, .int .i64 b0, .int .i64 b1, .int .i64 b2, .int .i64 b3, .int .i64 b4, .int .i64 b5, .int .i64 b6, .int .i64 b7, .int .i64 hd, .int .i64 nn, .int .i64 sq] 77 (0, 0))) := Lib.hid (by rw [← hw4]; exact blk_new wr _)
      have HSQ : Hid (Calls Try.prog 104 #[.agg #[.int .i64 m, .int .i64 nx, .int .i64 b0, .int .i64 b1, .int .i64 b2, .int .i64 b3, .int .i64 b4, .int .i64 b5, .int .i64 b6, .int .i64 b7, .int .i64 hd, .int .i64 nn, .int .i64 sq]] w4 (IntsP q w4)) := Lib.hid (by rw [← hq]; exact squeue_any m nx b0 b1 b2 b3 b4 b5 b6 b7 hd nn sq w4)
      have HL1 := Lib.hid (St.runs_few HFW.out k 0)
      clear hp hb hq hw4
      go_upto_region 5 with fail
      rw [HW4.out]
      clear p0 p1 p2 p3 p4 p5 p6 p7 p8 p9 p10 p11 p12
      obtain ⟨⟨p0, p1, p2, p3, p4, p5, p6⟩, p7, p8, p9, p10, p11, p12⟩ := cells13 HB4.out
      go_wp2_with fail
      refine HSQ.out.mono ?_
      rintro e w5 ⟨A3, c3, rfl, ho3, hx3⟩
      clear p0 p1 p2 p3 p4 p5 p6 p7 p8 p9 p10 p11 p12
      have H5 : Hid (CRnd w1 cb db s.gs.length ((s.ps.take k).flatMap St.queueOf) [] [] w5) := Lib.hid (HC.out.ext (HX4.out.trans hx3))
      have HO3 := Lib.hid ho3
      have HS4 : Hid (cb < w4.heap.size ∧ db < w4.heap.size) := Lib.hid (by have := HC.out.1.lt; have := HX4.out.size; omega)
      clear ho3 hx3 HC
      obtain ⟨wo, rfl⟩ : ∃ wo, wo = wr := ⟨_, rfl⟩
      go_wp2_with fail
      go_loopw [34] (fun iv wr => ∃ j : Nat, j ≤ q.length ∧ iv = .int .i64 j ∧ CenAt wr cb db s.gs.length (l3 ((s.ps.take k).flatMap St.queueOf ++ q.take j) [] []) ∧ But (fun i => i = cb ∨ i = db) w5 wr) (fun iv _ => q.length - (intOf iv).toNat)
      case atStart => exact ⟨0, by omega, rfl, by simpa using H5.out.1, But.refl _ _⟩
      case round =>
        obtain ⟨j, hj, rfl, hc, hbt⟩ := hrel
        have HC := Lib.hid hc
        have HBT := Lib.hid hbt
        have hq9 : (q.length : Int) ≤ 9 := by have := HQ9.out; omega
        by_cases hlt2 : j < q.length
        · obtain ⟨g, hg⟩ : ∃ g, q[j]? = some g := ⟨_, List.getElem?_eq_getElem hlt2⟩
          obtain ⟨b, o, rfl, hb, hcell⟩ := ints_get HO3.out.at.2 hg
          have hfar := HO3.out.far rfl
          have cq : wr.cell? ⟨b, o + j, none⟩ = some (.int .i64 g) := (hbt.cell hb (by have := HS4.out; rintro (e | e) <;> omega)).trans hcell
          have HS := Lib.hid (sof_any cb db s.gs.length _ [] [] g wr hc (by omega) ⟨by rw [List.length_append, List.length_take]; have := HL1.out; have := HQ9.out; omega, by simp, by simp⟩)
          have HG := Lib.hid hg
          clear hc hbt hb hcell hfar hg
          go_wp2_with fail
          refine HS.out.mono ?_
          rintro e w7 ⟨bb, oo, c0, c1, c2, rfl, ⟨z0, z1, z2, zf⟩, ⟨y0, y1, y2, y3, y4, y5⟩, hn0, -, -, hb2⟩
          have zf0 := zf oo
          have HN : Hid (CenAt (w7.setCell ⟨bb, oo, none⟩ (.int .i64 (c0 + 1))) cb db s.gs.length (l3 ((s.ps.take k).flatMap St.queueOf ++ q.take (j + 1)) [] [])) := Lib.hid (by rw [take_next HG.out, ← List.append_assoc]; exact hn0)
          have HB2 := Lib.hid (HBT.out.trans (hb2 oo (.int .i64 (c0 + 1))))
          clear hn0 hb2 zf z1 z2 cq
          go_wp2
          go_roundw
          case rel => exact ⟨j + 1, by omega, by go_num, HN.out, HB2.out⟩
          case measure => simp [intOf]; omega
        · obtain rfl : j = q.length := by omega
          clear hc hbt
          have HN : Hid (CRnd w1 cb db s.gs.length ((s.ps.take (k + 1)).flatMap St.queueOf) [] [] wr) := Lib.hid ⟨by rw [HF.out]; have := HC.out; rwa [List.take_length] at this, HBT.out.after H5.out.2 (by have := HD1.out; have := HC1.out; rintro i (rfl | rfl) <;> assumption)⟩
          go_wp2
          go_roundw
          case rel => exact ⟨k + 1, by omega, by go_num, HN.out⟩
          case measure => simp [intOf]; omega
    · obtain rfl : k = s.ps.length := by omega
      rw [List.take_length] at HC
      have HLR : Hid ((s.ps.flatMap St.queueOf).length ≤ 900000) := Lib.hid (by have := St.runs_few HFW.out s.ps.length 0; rw [List.take_length] at this; omega)
      have q4 := st4 (HC.out.2.blk HB1.out)
      obtain ⟨wo, rfl⟩ : ∃ wo, wo = wr := ⟨_, rfl⟩
      go_wp2_with fail
      clear q4
      obtain ⟨la, hla⟩ : ∃ la, h.la = la := ⟨_, rfl⟩
      have HLA := Lib.hid hla
      rw [hla]
      clear hla
      go_loopw [52] (fun iv wr => ∃ k : Nat, k ≤ s.glob.length ∧ iv = .int .i64 k ∧ CRnd w1 cb db s.gs.length (s.ps.flatMap St.queueOf ++ s.glob.take k) [] [] wr) (fun iv _ => s.glob.length - (intOf iv).toNat)
      case atStart => exact ⟨0, by omega, rfl, by simpa using HC.out⟩
      case round =>
        clear HC
        obtain ⟨k, hk, rfl, hc⟩ := hrel
        have HC := Lib.hid hc
        clear hc
        by_cases hlt : k < s.glob.length
        · obtain ⟨g, hg⟩ : ∃ g, s.glob[k]? = some g := ⟨_, List.getElem?_eq_getElem hlt⟩
          obtain ⟨b, o, hA, hb, hcell⟩ := ints_get (HK1.out.ext HC.out.2).glob hg
          rw [HLA.out] at hA
          subst hA
          have HS := Lib.hid (sof_any cb db s.gs.length _ [] [] g wr HC.out.1 (by omega) ⟨by rw [List.length_append, List.length_take]; have := HLR.out; omega, by simp, by simp⟩)
          have HG := Lib.hid hg
          clear hb hg
          go_wp2_with fail
          refine HS.out.mono ?_
          rintro e w7 ⟨bb, oo, c0, c1, c2, rfl, ⟨z0, z1, z2, zf⟩, ⟨y0, y1, y2, y3, y4, y5⟩, hn0, -, -, hb2⟩
          have zf0 := zf (oo)
          have HN : Hid (CenAt (w7.setCell ⟨bb, oo, none⟩ (.int .i64 (c0 + 1))) cb db s.gs.length (l3 (s.ps.flatMap St.queueOf ++ s.glob.take (k + 1)) [] [])) := Lib.hid (by rw [take_next HG.out, ← List.append_assoc]; exact hn0)
          have HB2 : Hid (Ext w1 (w7.setCell ⟨bb, oo, none⟩ (.int .i64 (c0 + 1)))) := Lib.hid ((hb2 oo _).after HC.out.2 (by have := HD1.out; have := HC1.out; rintro i (rfl | rfl) <;> assumption))
          clear hn0 hb2 zf z1 z2 hcell
          go_wp2
          go_roundw
          case rel => exact ⟨k + 1, by omega, by go_num, HN.out, HB2.out⟩
          case measure => simp [intOf]; omega
        · obtain rfl : k = s.glob.length := by omega
          rw [List.take_length] at HC
          have HR : Hid (s.ps.flatMap St.queueOf ++ s.glob = s.runs) := Lib.hid rfl
          rw [HR.out] at HC
          have HLQ : Hid (s.runs.length ≤ 1000000) := Lib.hid (by rw [← HR.out, List.length_append]; have := HLR.out; omega)
          have q9 := st9 (HC.out.2.blk HB1.out)
          have q10 := st10 (HC.out.2.blk HB1.out)
          have q11 := st11 (HC.out.2.blk HB1.out)
          have q12 := st12 (HC.out.2.blk HB1.out)
          obtain ⟨wo, rfl⟩ : ∃ wo, wo = wr := ⟨_, rfl⟩
          go_wp2_with fail
          clear q9 q10 q11 q12
          go_loopw [68] (fun iv wr => ∃ k : Nat, k ≤ 4 ∧ iv = .int .i64 k ∧ CRnd w1 cb db s.gs.length s.runs ((s.wts.take k).flatten) [] wr) (fun iv _ => 4 - (intOf iv).toNat)
          case atStart => exact ⟨0, by omega, rfl, by simpa using HC.out⟩
          case round =>
            clear HC
            obtain ⟨k, hk, rfl, hc⟩ := hrel
            have HC := Lib.hid hc
            clear hc
            by_cases hlt : k < 4
            · obtain ⟨A0, d0, l, hcell, hI, hl⟩ := HK1.out.wait hlt
              have hidx : ∀ w, (Instr.index 44 (.agg #[.slice h.a0 s.w0.length h.k0, .slice h.a1 s.w1.length h.k1, .slice h.a2 s.w2.length h.k2, .slice h.a3 s.w3.length h.k3]) (.int .i64 (k : Int))).run Try.prog w = .ok (.slice A0 l.length d0) w := fun w => by
                obtain rfl | rfl | rfl | rfl : k = 0 ∨ k = 1 ∨ k = 2 ∨ k = 3 := by omega
                · have he : Value.slice h.a0 s.w0.length h.k0 = .slice A0 l.length d0 := Option.some.inj hcell
                  refine Eq.trans (b := .ok (.slice h.a0 s.w0.length h.k0) w) ?_ (by rw [he])
                  kernel_rfl
                · have he : Value.slice h.a1 s.w1.length h.k1 = .slice A0 l.length d0 := Option.some.inj hcell
                  refine Eq.trans (b := .ok (.slice h.a1 s.w1.length h.k1) w) ?_ (by rw [he])
                  kernel_rfl
                · have he : Value.slice h.a2 s.w2.length h.k2 = .slice A0 l.length d0 := Option.some.inj hcell
                  refine Eq.trans (b := .ok (.slice h.a2 s.w2.length h.k2) w) ?_ (by rw [he])
                  kernel_rfl
                · have he : Value.slice h.a3 s.w3.length h.k3 = .slice A0 l.length d0 := Option.some.inj hcell
                  refine Eq.trans (b := .ok (.slice h.a3 s.w3.length h.k3) w) ?_ (by rw [he])
                  kernel_rfl
              have HI := Lib.hid (hI.ext (Ext.refl w1))
              have HF := Lib.hid (flatten_next hl)
              have hll := wts_few F2.out hl
              have HLW := Lib.hid (St.wts_len HFW.out k)
              clear hcell hI hl
              obtain ⟨wo, rfl⟩ : ∃ wo, wo = wr := ⟨_, rfl⟩
              go_wp2_with fail
              clear hidx
              rename_i hA hK hB
              have HLT := Lib.hid hlt
              clear hA hlt
              go_loopw [73] (fun iv wr => ∃ j : Nat, j ≤ l.length ∧ iv = .int .i64 j ∧ CRnd w1 cb db s.gs.length s.runs ((s.wts.take k).flatten ++ l.take j) [] wr) (fun iv _ => l.length - (intOf iv).toNat)
              case atStart => exact ⟨0, by omega, rfl, by simpa using HC.out⟩
              case round =>
                clear HC
                obtain ⟨j, hj, rfl, hc⟩ := hrel
                have HC := Lib.hid hc
                clear hc
                by_cases hlt2 : j < l.length
                · obtain ⟨g, hg⟩ : ∃ g, l[j]? = some g := ⟨_, List.getElem?_eq_getElem hlt2⟩
                  obtain ⟨b, o, rfl, hb, hcell⟩ := ints_get (HI.out.ext HC.out.2) hg
                  have HS := Lib.hid (sof_any cb db s.gs.length _ _ [] g wr HC.out.1 (by omega) ⟨by have := HLQ.out; omega, by rw [List.length_append, List.length_take]; have := HLW.out; omega, by simp⟩)
                  have HG := Lib.hid hg
                  clear hb hg
                  go_wp2_with fail
                  refine HS.out.mono ?_
                  rintro e w7 ⟨bb, oo, c0, c1, c2, rfl, ⟨z0, z1, z2, zf⟩, ⟨y0, y1, y2, y3, y4, y5⟩, -, hn0, -, hb2⟩
                  have zf0 := zf (oo + 1)
                  have HN : Hid (CenAt (w7.setCell ⟨bb, oo + 1, none⟩ (.int .i64 (c1 + 1))) cb db s.gs.length (l3 s.runs ((s.wts.take k).flatten ++ l.take (j + 1)) [])) := Lib.hid (by rw [take_next HG.out, ← List.append_assoc]; exact hn0)
                  have HB2 : Hid (Ext w1 (w7.setCell ⟨bb, oo + 1, none⟩ (.int .i64 (c1 + 1)))) := Lib.hid ((hb2 (oo + 1) _).after HC.out.2 (by have := HD1.out; have := HC1.out; rintro i (rfl | rfl) <;> assumption))
                  clear hn0 hb2 zf z0 z2 hcell
                  go_wp2
                  go_roundw
                  case rel => exact ⟨j + 1, by omega, by go_num, HN.out, HB2.out⟩
                  case measure => simp [intOf]; omega
                · obtain rfl : j = l.length := by omega
                  rw [List.take_length, ← HF.out] at HC
                  have hlt := HLT.out
                  go_wp2
                  go_roundw
                  case rel => exact ⟨k + 1, by omega, by go_num, HC.out⟩
                  case measure => simp [intOf]; omega
            · have HW : Hid ((s.wts.take k).flatten = s.waits) := Lib.hid (by rw [List.take_of_length_le (by simp [St.wts]; omega), St.wts_flatten])
              have HWL : Hid (s.waits.length ≤ 400000) := Lib.hid (by rw [← HW.out]; exact St.wts_len HFW.out k)
              rw [HW.out] at HC
              have q13 := st13 (HC.out.2.blk HB1.out)
              obtain ⟨wo, rfl⟩ : ∃ wo, wo = wr := ⟨_, rfl⟩
              go_wp2_with fail
              clear q13
              obtain ⟨ta, hta⟩ : ∃ ta, h.ta = ta := ⟨_, rfl⟩
              have HTA := Lib.hid hta
              rw [hta]
              clear hta
              go_loopw [91] (fun iv wr => ∃ k : Nat, k ≤ s.timers.length ∧ iv = .int .i64 k ∧ CRnd w1 cb db s.gs.length s.runs (s.waits ++ (s.timers.take k).map Prod.snd) [] wr) (fun iv _ => s.timers.length - (intOf iv).toNat)
              case atStart => exact ⟨0, by omega, rfl, by simpa using HC.out⟩
              case round =>
                clear HC
                obtain ⟨k, hk, rfl, hc⟩ := hrel
                have HC := Lib.hid hc
                clear hc
                by_cases hlt : k < s.timers.length
                · obtain ⟨t, ht⟩ : ∃ t, s.timers[k]? = some t := ⟨_, List.getElem?_eq_getElem hlt⟩
                  obtain ⟨b, o, hA, hb, p0, p1⟩ := frs2_get (HK1.out.ext HC.out.2).timers.rows ht
                  rw [HTA.out] at hA
                  subst hA
                  obtain ⟨ta, tg⟩ := t
                  simp only at p0 p1
                  have HF : Hid ((s.timers.take (k + 1)).map Prod.snd = (s.timers.take k).map Prod.snd ++ [tg]) := Lib.hid (by
                    rw [take_next ht, List.map_append]; rfl)
                  obtain ⟨w4, hw4⟩ : ∃ w4, wr.alloc (.cells #[.int .i64 ta, .int .i64 tg] 129) = w4 := ⟨_, rfl⟩
                  have HW4 := Lib.hid hw4
                  have HC4 : Hid (CRnd w1 cb db s.gs.length s.runs (s.waits ++ (s.timers.take k).map Prod.snd) [] w4) := Lib.hid (HC.out.ext (by rw [← hw4]; exact (Ext.refl wr).alloc _))
                  have HB4 : Hid (w4.heap[wr.heap.size]? = some (.cells #[.int .i64 ta, .int .i64 tg] 129 (0, 0))) := Lib.hid (by rw [← hw4]; exact blk_new wr _)
                  have HS := Lib.hid (sof_any cb db s.gs.length _ _ [] tg w4 HC4.out.1 (by omega) ⟨by have := HLQ.out; omega, by rw [List.length_append, List.length_map, List.length_take]; have := HWL.out; omega, by simp⟩)
                  clear hb ht hw4 HC
                  go_upto_region 28 with fail
                  rw [HW4.out]
                  clear p0 p1
                  have q1 : w4.cell? ⟨wr.heap.size, 1, none⟩ = some (.int .i64 tg) := blk_cell HB4.out 1 _ rfl
                  go_wp2_with fail
                  refine HS.out.mono ?_
                  rintro e w7 ⟨bb, oo, c0, c1, c2, rfl, ⟨z0, z1, z2, zf⟩, ⟨y0, y1, y2, y3, y4, y5⟩, -, hn0, -, hb2⟩
                  have zf0 := zf (oo + 1)
                  have HN : Hid (CenAt (w7.setCell ⟨bb, oo + 1, none⟩ (.int .i64 (c1 + 1))) cb db s.gs.length (l3 s.runs (s.waits ++ (s.timers.take (k + 1)).map Prod.snd) [])) := Lib.hid (by rw [HF.out, ← List.append_assoc]; exact hn0)
                  have HB2 : Hid (Ext w1 (w7.setCell ⟨bb, oo + 1, none⟩ (.int .i64 (c1 + 1)))) := Lib.hid ((hb2 (oo + 1) _).after HC4.out.2 (by have := HD1.out; have := HC1.out; rintro i (rfl | rfl) <;> assumption))
                  clear hn0 hb2 zf z0 z2 q1
                  go_wp2
                  go_roundw
                  case rel => exact ⟨k + 1, by omega, by go_num, HN.out, HB2.out⟩
                  case measure => simp [intOf]; omega
                · obtain rfl : k = s.timers.length := by omega
                  rw [List.take_length] at HC
                  have HR : Hid (s.waits ++ s.timers.map Prod.snd = s.waiters) := Lib.hid rfl
                  rw [HR.out] at HC
                  have HLU : Hid (s.waiters.length ≤ 1000000) := Lib.hid (by rw [← HR.out, List.length_append, List.length_map]; have := HWL.out; omega)
                  have q3 := st3 (HC.out.2.blk HB1.out)
                  obtain ⟨wo, rfl⟩ : ∃ wo, wo = wr := ⟨_, rfl⟩
                  go_wp2_with fail
                  clear q3
                  obtain ⟨ma, hma⟩ : ∃ ma, h.ma = ma := ⟨_, rfl⟩
                  have HMA := Lib.hid hma
                  rw [hma]
                  clear hma
                  go_loopw [109] (fun iv wr => ∃ k : Nat, k ≤ s.ms.length ∧ iv = .int .i64 k ∧ CRnd w1 cb db s.gs.length s.runs s.waiters (((s.ms.take k).filter fun m => m.2 != 0).map Prod.snd) wr) (fun iv _ => s.ms.length - (intOf iv).toNat)
                  case atStart => exact ⟨0, by omega, rfl, by simpa using HC.out⟩
                  case round =>
                    clear HC
                    obtain ⟨k, hk, rfl, hc⟩ := hrel
                    have HC := Lib.hid hc
                    clear hc
                    by_cases hlt : k < s.ms.length
                    · obtain ⟨t, ht⟩ : ∃ t, s.ms[k]? = some t := ⟨_, List.getElem?_eq_getElem hlt⟩
                      obtain ⟨b, o, hA, hb, p0, p1⟩ := frs2_get (HK1.out.ext HC.out.2).ms ht
                      rw [HMA.out] at hA
                      subst hA
                      obtain ⟨tp, tg⟩ := t
                      simp only at p0 p1
                      have HF : Hid (((s.ms.take (k + 1)).filter fun m => m.2 != 0).map Prod.snd = ((s.ms.take k).filter fun m => m.2 != 0).map Prod.snd ++ if tg = 0 then [] else [tg]) := Lib.hid (by
                        rw [take_next ht, List.filter_append, List.map_append]
                        congr 1
                        by_cases h : tg = 0
                        · subst h; rfl
                        · rw [if_neg h, List.filter_cons, if_pos (by simpa using h)]; rfl)
                      have HLF : Hid ((((s.ms.take k).filter fun m => m.2 != 0).map Prod.snd).length ≤ 100000) := Lib.hid (by
                        rw [List.length_map]
                        have := List.length_filter_le (fun m : Int × Int => m.2 != 0) (s.ms.take k)
                        rw [List.length_take] at this
                        omega)
                      obtain ⟨w4, hw4⟩ : ∃ w4, wr.alloc (.cells #[.int .i64 tp, .int .i64 tg] 119) = w4 := ⟨_, rfl⟩
                      have HW4 := Lib.hid hw4
                      have HC4 : Hid (CRnd w1 cb db s.gs.length s.runs s.waiters (((s.ms.take k).filter fun m => m.2 != 0).map Prod.snd) w4) := Lib.hid (HC.out.ext (by rw [← hw4]; exact (Ext.refl wr).alloc _))
                      have HB4 : Hid (w4.heap[wr.heap.size]? = some (.cells #[.int .i64 tp, .int .i64 tg] 119 (0, 0))) := Lib.hid (by rw [← hw4]; exact blk_new wr _)
                      have HS := Lib.hid (sof_any cb db s.gs.length _ _ _ tg w4 HC4.out.1 (by omega) ⟨by have := HLQ.out; omega, by have := HLU.out; omega, by have := HLF.out; omega⟩)
                      clear hb ht hw4 HC
                      go_upto_region 33 with fail
                      rw [HW4.out]
                      clear p0 p1
                      have q1 : w4.cell? ⟨wr.heap.size, 1, none⟩ = some (.int .i64 tg) := blk_cell HB4.out 1 _ rfl
                      by_cases h0 : tg = 0
                      · have HC5 : Hid (CRnd w1 cb db s.gs.length s.runs s.waiters (((s.ms.take (k + 1)).filter fun m => m.2 != 0).map Prod.snd) w4) := Lib.hid (by rw [HF.out, if_pos h0, List.append_nil]; exact HC4.out)
                        subst h0
                        go_wp2
                        go_roundw
                        case rel => exact ⟨k + 1, by omega, by go_num, HC5.out⟩
                        case measure => simp [intOf]; omega
                      · have h0' : (tg != 0) = true := by simpa using h0
                        rw [if_neg h0] at HF
                        clear h0
                        go_wp2_with fail
                        refine HS.out.mono ?_
                        rintro e w7 ⟨bb, oo, c0, c1, c2, rfl, ⟨z0, z1, z2, zf⟩, ⟨y0, y1, y2, y3, y4, y5⟩, -, -, hn0, hb2⟩
                        have zf0 := zf (oo + 2)
                        have HN : Hid (CenAt (w7.setCell ⟨bb, oo + 2, none⟩ (.int .i64 (c2 + 1))) cb db s.gs.length (l3 s.runs s.waiters (((s.ms.take (k + 1)).filter fun m => m.2 != 0).map Prod.snd))) := Lib.hid (by rw [HF.out]; exact hn0)
                        have HB2 : Hid (Ext w1 (w7.setCell ⟨bb, oo + 2, none⟩ (.int .i64 (c2 + 1)))) := Lib.hid ((hb2 (oo + 2) _).after HC4.out.2 (by have := HD1.out; have := HC1.out; rintro i (rfl | rfl) <;> assumption))
                        clear hn0 hb2 zf z0 z1 q1
                        go_wp2
                        go_roundw
                        case rel => exact ⟨k + 1, by omega, by go_num, HN.out, HB2.out⟩
                        case measure => simp [intOf]; omega
                    · obtain rfl : k = s.ms.length := by omega
                      rw [List.take_length] at HC
                      go_wp2
                      go_ret
                      exact ⟨cb, db, rfl, HC.out.1, HX1.out.trans HC.out.2⟩
theorem St.runs_len {s : St} (hf : StFew s) : s.runs.length ≤ 1000000 := by
  unfold St.runs
  have := flatMap_len9 s.ps
  have h1 := hf.ps
  have h2 := hf.glob
  rw [List.length_append]
  omega
theorem St.waiters_len {s : St} (hf : StFew s) : s.waiters.length ≤ 1000000 := by
  unfold St.waiters St.waits
  have h1 := hf.timers
  obtain ⟨a, b, c, d⟩ := hf.w
  simp only [List.length_append, List.length_map]
  omega
theorem St.onM_len {s : St} (hf : StFew s) (b : Bool) : (s.onM b).length ≤ 1000000 := by
  unfold St.onM
  rw [List.length_map]
  have := List.length_filter_le (fun m : Int × Int => m.2 != 0 && ((m.1 != 0) == b)) s.ms
  have h1 := hf.ms
  omega
theorem stands_eq {s : St} {i : Nat} {g : Gr} {na nb nc nd : Nat} (ha : St.times s.runs (i + 1) = na) (hb : St.times s.waiters (i + 1) = nb) (hc : St.times (s.onM true) (i + 1) = nc) (hd : St.times (s.onM false) (i + 1) = nd) :
    s.stands i g = (decide (1 ≤ g.st ∧ g.st ≤ 5) && decide (na = St.want g.st 1 ∧ nc = St.want g.st 2 ∧ nb = St.want g.st 3 ∧ nd = St.want g.st 4) &&
      (if g.st ≠ 2 ∧ g.st ≠ 4 then decide (g.m = 0) else decide (1 ≤ g.m ∧ g.m ≤ s.ms.length) && decide ((s.ms.getD (g.m - 1).toNat (0, 0)).2 = i + 1))) := by
  unfold St.stands; rw [ha, hb, hc, hd]
theorem st16 {v : World} {b : Nat} {h : StH} {s : St} {T : TypeId} (hb : v.heap[b]? = some (.cells (stC h s) T (0, 0))) :
    ((v.cell? ⟨b, 0, none⟩ = some (.slice h.pa s.prog.length h.pc) ∧ v.cell? ⟨b, 1, none⟩ = some (.slice h.ga s.gs.length h.gc) ∧ v.cell? ⟨b, 2, none⟩ = some (.slice h.qa s.ps.length h.qc) ∧ v.cell? ⟨b, 3, none⟩ = some (.slice h.ma s.ms.length h.mc)) ∧
      v.cell? ⟨b, 4, none⟩ = some (.slice h.la s.glob.length h.lc) ∧ v.cell? ⟨b, 5, none⟩ = some (.int .i64 s.c0) ∧ v.cell? ⟨b, 6, none⟩ = some (.int .i64 s.c1) ∧ v.cell? ⟨b, 7, none⟩ = some (.int .i64 s.c2)) ∧
    (v.cell? ⟨b, 8, none⟩ = some (.int .i64 s.c3) ∧ v.cell? ⟨b, 9, none⟩ = some (.slice h.a0 s.w0.length h.k0) ∧ v.cell? ⟨b, 10, none⟩ = some (.slice h.a1 s.w1.length h.k1) ∧ v.cell? ⟨b, 11, none⟩ = some (.slice h.a2 s.w2.length h.k2)) ∧
      v.cell? ⟨b, 12, none⟩ = some (.slice h.a3 s.w3.length h.k3) ∧ v.cell? ⟨b, 13, none⟩ = some (.slice h.ta s.timers.length h.tc) ∧ v.cell? ⟨b, 14, none⟩ = some (.int .i64 s.clock) ∧ v.cell? ⟨b, 15, none⟩ = some (.int .i64 s.procs) :=
  ⟨⟨⟨st0 hb, st1 hb, st2 hb, st3 hb⟩, st4 hb, st5 hb, st6 hb, st7 hb⟩, ⟨st8 hb, st9 hb, st10 hb, st11 hb⟩, st12 hb, st13 hb, st14 hb, st15 hb⟩
set_option maxRecDepth 100000 in
set_option maxHeartbeats 16000000 in
theorem rstands_any (h : StH) (s : St) (k : Nat) (g : Gr) (hg : s.gs[k]? = some g) (r : Bool) (hr : s.stands k g = r) (w : World) (hk : StOk w h s) (hf : StFew s) : Calls Try.prog 75 #[stV h s, .int .i64 ((k : Int) + 1)] w fun e w' => e = .returned (.bool r) ∧ Ext w w' := by
  subst hr
  have f1 := hf.gs
  have f2 := hf.ms
  have HF := Lib.hid hf
  have hlt : k < s.gs.length := (List.getElem?_eq_some_iff.1 hg).1
  have hkb : (k : Int) < (s.gs.length : Int) := by omega
  have HK := Lib.hid hk
  obtain ⟨w1, hw1⟩ : ∃ w1, w.alloc (.cells #[.slice h.pa s.prog.length h.pc, .slice h.ga s.gs.length h.gc, .slice h.qa s.ps.length h.qc, .slice h.ma s.ms.length h.mc, .slice h.la s.glob.length h.lc, .int .i64 s.c0, .int .i64 s.c1, .int .i64 s.c2, .int .i64 s.c3, .slice h.a0 s.w0.length h.k0, .slice h.a1 s.w1.length h.k1, .slice h.a2 s.w2.length h.k2, .slice h.a3 s.w3.length h.k3, .slice h.ta s.timers.length h.tc, .int .i64 s.clock, .int .i64 s.procs] 47) = w1 := ⟨_, rfl⟩
  have HX1 : Hid (Ext w w1) := Lib.hid (by rw [← hw1]; exact (Ext.refl w).alloc _)
  have HB1 : Hid (w1.heap[w.heap.size]? = some (.cells (stC h s) 47 (0, 0))) := Lib.hid (by rw [← hw1]; exact blk_new w _)
  have HK1 := Lib.hid (hk.ext HX1.out)
  have HW1 := Lib.hid hw1
  clear hw1 hk
  clear hf
  obtain ⟨na, hna⟩ : ∃ na, St.times s.runs ((k : Int) + 1) = na := ⟨_, rfl⟩
  obtain ⟨nb, hnb⟩ : ∃ nb, St.times s.waiters ((k : Int) + 1) = nb := ⟨_, rfl⟩
  obtain ⟨nc, hnc⟩ : ∃ nc, St.times (s.onM true) ((k : Int) + 1) = nc := ⟨_, rfl⟩
  obtain ⟨nd, hnd⟩ : ∃ nd, St.times (s.onM false) ((k : Int) + 1) = nd := ⟨_, rfl⟩
  have HST := Lib.hid (stands_eq (g := g) hna hnb hnc hnd)
  have Hna := Lib.hid hna
  have Hnb := Lib.hid hnb
  have Hnc := Lib.hid hnc
  have Hnd := Lib.hid hnd
  have HLna := Lib.hid (St.runs_len HF.out)
  have HLnb := Lib.hid (St.waiters_len HF.out)
  have HLnc := Lib.hid (St.onM_len HF.out true)
  have HLnd := Lib.hid (St.onM_len HF.out false)
  obtain ⟨b, o, hA, hb, p0, p1, p2, p3, p4⟩ := gs_get HK1.out.gs hg
  obtain ⟨fn, pc, st, m, sq⟩ := g
  simp only at p0 p1 p2 p3 p4
  obtain ⟨w3, hw3⟩ : ∃ w3, w1.alloc (.cells #[.int .i64 fn, .int .i64 pc, .int .i64 st, .int .i64 m, .int .i64 sq] 72) = w3 := ⟨_, rfl⟩
  have HW3 := Lib.hid hw3
  have HX3 : Hid (Ext w1 w3) := Lib.hid (by rw [← hw3]; exact (Ext.refl w1).alloc _)
  have HQ3 : Hid (w3.heap[w1.heap.size]? = some (.cells #[.int .i64 fn, .int .i64 pc, .int .i64 st, .int .i64 m, .int .i64 sq] 72 (0, 0))) := Lib.hid (by rw [← hw3]; exact blk_new w1 _)
  have q1 := st1 HB1.out
  have e1 : (k : Int) + 1 - 1 = (k : Int) := by omega
  have HA := Lib.hid hA
  clear hg hb hw3 hna hnb hnc hnd hA
  unfold stV
  go_enter Try.func75, Try.ntmps75
  go_upto_region 1 with fail
  rw [HW1.out]
  generalize Value.agg #[.slice h.pa s.prog.length h.pc, .slice h.ga s.gs.length h.gc, .slice h.qa s.ps.length h.qc, .slice h.ma s.ms.length h.mc, .slice h.la s.glob.length h.lc, .int .i64 s.c0, .int .i64 s.c1, .int .i64 s.c2, .int .i64 s.c3, .slice h.a0 s.w0.length h.k0, .slice h.a1 s.w1.length h.k1, .slice h.a2 s.w2.length h.k2, .slice h.a3 s.w3.length h.k3, .slice h.ta s.timers.length h.tc, .int .i64 s.clock, .int .i64 s.procs] = sv0
  have hA := HA.out
  go_upto_region 2 with fail
  rw [HW3.out]
  clear q1 hA p0 p1 p2 p3 p4
  refine region_rgx ([(1, (fun u => ∃ A c, u = .slice A s.runs.length c : Value → Prop), (fun u w => IntsAt w (u 1).v s.runs : (Nat → GV) → World → Prop)), (3, (fun u => u = .int .i64 (na : Nat) : Value → Prop), (fun _ _ => True : (Nat → GV) → World → Prop)), (5, (fun u => ∃ A c, u = .slice A s.waiters.length c : Value → Prop), (fun u w => IntsAt w (u 5).v s.waiters : (Nat → GV) → World → Prop)), (7, (fun u => u = .int .i64 (nb : Nat) : Value → Prop), (fun _ _ => True : (Nat → GV) → World → Prop))]) (w3) (by kernel_rfl) (by kernel_rfl) ?_ ?_ ?_
  · exact List.forall_mem_cons.2 ⟨⟨⟨_, none, 0, rfl⟩, fun u v w h ht => by show (fun u w => IntsAt w (u 1).v s.runs : (Nat → GV) → World → Prop) v w; dsimp only; rw [← h 1 (.inl rfl) (by kernel_rfl)]; exact ht, fun u w w2 hx ht => ht.ext hx⟩, List.forall_mem_cons.2 ⟨⟨⟨_, rfl⟩, fun _ _ _ _ _ => trivial, fun _ _ _ _ _ => trivial⟩, List.forall_mem_cons.2 ⟨⟨⟨_, none, 0, rfl⟩, fun u v w h ht => by show (fun u w => IntsAt w (u 5).v s.waiters : (Nat → GV) → World → Prop) v w; dsimp only; rw [← h 5 (.inl rfl) (by kernel_rfl)]; exact ht, fun u w w2 hx ht => ht.ext hx⟩, List.forall_mem_cons.2 ⟨⟨⟨_, rfl⟩, fun _ _ _ _ _ => trivial, fun _ _ _ _ _ => trivial⟩, List.forall_mem_nil _⟩⟩⟩⟩
  · first | assumption | exact Ext.refl _
  refine rg_pure (v := stV h s) rfl (by kernel_rfl) (by kernel_rfl) (fun w hS hN => ?_) ?_
  · clear hN
    exact givesP_load 47 _ rfl _ (by go_simp) (stL h s) _ rfl _ (range_row ((HX3.out.trans hS).blk HB1.out)) Try.underlying47 rfl (by kernel_rfl)
  refine rg_mem (fun u => ∃ A c, u = .slice A s.runs.length c : Value → Prop) (fun u w => IntsAt w (u 1).v s.runs : (Nat → GV) → World → Prop) (fun _ => Ext) rfl rfl rfl rfl (by kernel_rfl) (by kernel_rfl) (fun w hS hN R hR => ?_) ?_
  · have HR := Lib.hid hR
    clear hR
    (try clear hN)
    go_simp
    refine givesM_call ((rruns_any h s w (HK1.out.ext (HX3.out.trans hS)) HF.out).mono ?_)
    rintro e w' ⟨A, c, rfl, ho, hx⟩
    exact ⟨_, rfl, HR.out _ _ ⟨_, _, rfl⟩ ho.at.2 hx⟩
  rintro u1 s1 t1 ⟨A1, c1, rfl⟩
  refine rg_pure (v := ?_) rfl (by kernel_rfl) (by kernel_rfl) (fun w hS hN => ?_) ?_
  rotate_left 1
  · clear hN
    go_simp
    refine givesP_mk ?_
    with_reducible rfl
  refine rg_mem (fun u => u = .int .i64 (na : Nat) : Value → Prop) (fun _ _ => True : (Nat → GV) → World → Prop) (fun _ => Ext) rfl rfl rfl rfl (by kernel_rfl) (by kernel_rfl) (fun w hS hN R hR => ?_) ?_
  · have HR := Lib.hid hR
    clear hR
    have h1 : IntsAt w (.slice A1 s.runs.length c1) s.runs := hN.get 1 rfl (by kernel_rfl)
    clear hN
    (try clear hN)
    go_simp
    refine givesM_call ((rtimes_any (.slice A1 s.runs.length c1) s.runs ((k : Int) + 1) w h1 (by have := HLna.out; omega)).mono ?_)
    rintro e w' ⟨rfl, rfl⟩
    exact ⟨_, rfl, HR.out _ _ (by rw [Hna.out]) trivial (Ext.refl _)⟩
  rintro u3 s3 t3 rfl
  refine rg_pure (v := stV h s) rfl (by kernel_rfl) (by kernel_rfl) (fun w hS hN => ?_) ?_
  · clear hN
    exact givesP_load 47 _ rfl _ (by go_simp) (stL h s) _ rfl _ (range_row ((HX3.out.trans hS).blk HB1.out)) Try.underlying47 rfl (by kernel_rfl)
  refine rg_mem (fun u => ∃ A c, u = .slice A s.waiters.length c : Value → Prop) (fun u w => IntsAt w (u 5).v s.waiters : (Nat → GV) → World → Prop) (fun _ => Ext) rfl rfl rfl rfl (by kernel_rfl) (by kernel_rfl) (fun w hS hN R hR => ?_) ?_
  · have HR := Lib.hid hR
    clear hR
    (try clear hN)
    go_simp
    refine givesM_call ((rwaiters_any h s w (HK1.out.ext (HX3.out.trans hS)) HF.out).mono ?_)
    rintro e w' ⟨A, c, rfl, ho, hx⟩
    exact ⟨_, rfl, HR.out _ _ ⟨_, _, rfl⟩ ho.at.2 hx⟩
  rintro u5 s5 t5 ⟨A5, c5, rfl⟩
  refine rg_pure (v := ?_) rfl (by kernel_rfl) (by kernel_rfl) (fun w hS hN => ?_) ?_
  rotate_left 1
  · clear hN
    go_simp
    refine givesP_mk ?_
    with_reducible rfl
  refine rg_mem (fun u => u = .int .i64 (nb : Nat) : Value → Prop) (fun _ _ => True : (Nat → GV) → World → Prop) (fun _ => Ext) rfl rfl rfl rfl (by kernel_rfl) (by kernel_rfl) (fun w hS hN R hR => ?_) ?_
  · have HR := Lib.hid hR
    clear hR
    have h5 : IntsAt w (.slice A5 s.waiters.length c5) s.waiters := hN.get 5 rfl (by kernel_rfl)
    clear hN
    (try clear hN)
    go_simp
    refine givesM_call ((rtimes_any (.slice A5 s.waiters.length c5) s.waiters ((k : Int) + 1) w h5 (by have := HLnb.out; omega)).mono ?_)
    rintro e w' ⟨rfl, rfl⟩
    exact ⟨_, rfl, HR.out _ _ (by rw [Hnb.out]) trivial (Ext.refl _)⟩
  rintro u7 s7 t7 rfl
  refine rg_pure (v := ?_) rfl (by kernel_rfl) (by kernel_rfl) (fun w hS hN => ?_) ?_
  rotate_left 1
  · clear hN
    go_simp
    refine givesP_mk ?_
    with_reducible rfl
  refine rg_pure (v := ?_) rfl (by kernel_rfl) (by kernel_rfl) (fun w hS hN => ?_) ?_
  rotate_left 1
  · clear hN
    go_simp
    refine givesP_mk ?_
    with_reducible rfl
  refine rg_done rfl (Nat.le_of_ble_eq_true (by kernel_rfl)) ?_
  intro w4 hS4 hT4
  have HX4 := Lib.hid (HX3.out.trans hS4)
  have HQ4 := Lib.hid (hS4.blk HQ3.out)
  clear hT4 hS4
  go_simp
  go_upto_region 3 with fail
  refine region_rgx ([(1, (fun u => ∃ A c, u = .slice A (s.onM true).length c : Value → Prop), (fun u w => IntsAt w (u 1).v (s.onM true) : (Nat → GV) → World → Prop)), (3, (fun u => u = .int .i64 (nc : Nat) : Value → Prop), (fun _ _ => True : (Nat → GV) → World → Prop)), (5, (fun u => ∃ A c, u = .slice A (s.onM false).length c : Value → Prop), (fun u w => IntsAt w (u 5).v (s.onM false) : (Nat → GV) → World → Prop)), (7, (fun u => u = .int .i64 (nd : Nat) : Value → Prop), (fun _ _ => True : (Nat → GV) → World → Prop))]) (w4) (by kernel_rfl) (by kernel_rfl) ?_ ?_ ?_
  · exact List.forall_mem_cons.2 ⟨⟨⟨_, none, 0, rfl⟩, fun u v w h ht => by show (fun u w => IntsAt w (u 1).v (s.onM true) : (Nat → GV) → World → Prop) v w; dsimp only; rw [← h 1 (.inl rfl) (by kernel_rfl)]; exact ht, fun u w w2 hx ht => ht.ext hx⟩, List.forall_mem_cons.2 ⟨⟨⟨_, rfl⟩, fun _ _ _ _ _ => trivial, fun _ _ _ _ _ => trivial⟩, List.forall_mem_cons.2 ⟨⟨⟨_, none, 0, rfl⟩, fun u v w h ht => by show (fun u w => IntsAt w (u 5).v (s.onM false) : (Nat → GV) → World → Prop) v w; dsimp only; rw [← h 5 (.inl rfl) (by kernel_rfl)]; exact ht, fun u w w2 hx ht => ht.ext hx⟩, List.forall_mem_cons.2 ⟨⟨⟨_, rfl⟩, fun _ _ _ _ _ => trivial, fun _ _ _ _ _ => trivial⟩, List.forall_mem_nil _⟩⟩⟩⟩
  · first | assumption | exact Ext.refl _
  refine rg_pure (v := stV h s) rfl (by kernel_rfl) (by kernel_rfl) (fun w hS hN => ?_) ?_
  · clear hN
    exact givesP_load 47 _ rfl _ (by go_simp) (stL h s) _ rfl _ (range_row ((HX4.out.trans hS).blk HB1.out)) Try.underlying47 rfl (by kernel_rfl)
  refine rg_mem (fun u => ∃ A c, u = .slice A (s.onM true).length c : Value → Prop) (fun u w => IntsAt w (u 1).v (s.onM true) : (Nat → GV) → World → Prop) (fun _ => Ext) rfl rfl rfl rfl (by kernel_rfl) (by kernel_rfl) (fun w hS hN R hR => ?_) ?_
  · have HR := Lib.hid hR
    clear hR
    (try clear hN)
    go_simp
    refine givesM_call ((ronM_any h s true w (HK1.out.ext (HX4.out.trans hS)) HF.out).mono ?_)
    rintro e w' ⟨A, c, rfl, ho, hx⟩
    exact ⟨_, rfl, HR.out _ _ ⟨_, _, rfl⟩ ho.at.2 hx⟩
  rintro u1 s1 t1 ⟨A1, c1, rfl⟩
  refine rg_pure (v := ?_) rfl (by kernel_rfl) (by kernel_rfl) (fun w hS hN => ?_) ?_
  rotate_left 1
  · clear hN
    go_simp
    refine givesP_mk ?_
    with_reducible rfl
  refine rg_mem (fun u => u = .int .i64 (nc : Nat) : Value → Prop) (fun _ _ => True : (Nat → GV) → World → Prop) (fun _ => Ext) rfl rfl rfl rfl (by kernel_rfl) (by kernel_rfl) (fun w hS hN R hR => ?_) ?_
  · have HR := Lib.hid hR
    clear hR
    have h1 : IntsAt w (.slice A1 (s.onM true).length c1) (s.onM true) := hN.get 1 rfl (by kernel_rfl)
    clear hN
    (try clear hN)
    go_simp
    refine givesM_call ((rtimes_any (.slice A1 (s.onM true).length c1) (s.onM true) ((k : Int) + 1) w h1 (by have := HLnc.out; omega)).mono ?_)
    rintro e w' ⟨rfl, rfl⟩
    exact ⟨_, rfl, HR.out _ _ (by rw [Hnc.out]) trivial (Ext.refl _)⟩
  rintro u3 s3 t3 rfl
  refine rg_pure (v := stV h s) rfl (by kernel_rfl) (by kernel_rfl) (fun w hS hN => ?_) ?_
  · clear hN
    exact givesP_load 47 _ rfl _ (by go_simp) (stL h s) _ rfl _ (range_row ((HX4.out.trans hS).blk HB1.out)) Try.underlying47 rfl (by kernel_rfl)
  refine rg_mem (fun u => ∃ A c, u = .slice A (s.onM false).length c : Value → Prop) (fun u w => IntsAt w (u 5).v (s.onM false) : (Nat → GV) → World → Prop) (fun _ => Ext) rfl rfl rfl rfl (by kernel_rfl) (by kernel_rfl) (fun w hS hN R hR => ?_) ?_
  · have HR := Lib.hid hR
    clear hR
    (try clear hN)
    go_simp
    refine givesM_call ((ronM_any h s false w (HK1.out.ext (HX4.out.trans hS)) HF.out).mono ?_)
    rintro e w' ⟨A, c, rfl, ho, hx⟩
    exact ⟨_, rfl, HR.out _ _ ⟨_, _, rfl⟩ ho.at.2 hx⟩
  rintro u5 s5 t5 ⟨A5, c5, rfl⟩
  refine rg_pure (v := ?_) rfl (by kernel_rfl) (by kernel_rfl) (fun w hS hN => ?_) ?_
  rotate_left 1
  · clear hN
    go_simp
    refine givesP_mk ?_
    with_reducible rfl
  refine rg_mem (fun u => u = .int .i64 (nd : Nat) : Value → Prop) (fun _ _ => True : (Nat → GV) → World → Prop) (fun _ => Ext) rfl rfl rfl rfl (by kernel_rfl) (by kernel_rfl) (fun w hS hN R hR => ?_) ?_
  · have HR := Lib.hid hR
    clear hR
    have h5 : IntsAt w (.slice A5 (s.onM false).length c5) (s.onM false) := hN.get 5 rfl (by kernel_rfl)
    clear hN
    (try clear hN)
    go_simp
    refine givesM_call ((rtimes_any (.slice A5 (s.onM false).length c5) (s.onM false) ((k : Int) + 1) w h5 (by have := HLnd.out; omega)).mono ?_)
    rintro e w' ⟨rfl, rfl⟩
    exact ⟨_, rfl, HR.out _ _ (by rw [Hnd.out]) trivial (Ext.refl _)⟩
  rintro u7 s7 t7 rfl
  refine rg_pure (v := ?_) rfl (by kernel_rfl) (by kernel_rfl) (fun w hS hN => ?_) ?_
  rotate_left 1
  · clear hN
    go_simp
    refine givesP_mk ?_
    with_reducible rfl
  refine rg_pure (v := ?_) rfl (by kernel_rfl) (by kernel_rfl) (fun w hS hN => ?_) ?_
  rotate_left 1
  · clear hN
    go_simp
    refine givesP_mk ?_
    with_reducible rfl
  refine rg_done rfl (Nat.le_of_ble_eq_true (by kernel_rfl)) ?_
  intro w5 hS5 hT5
  have HX5 := Lib.hid (HX4.out.trans hS5)
  have HQ5 := Lib.hid (hS5.blk HQ4.out)
  clear hT5 hS5
  go_simp
  obtain ⟨w6, hw6⟩ : ∃ w6, w5.alloc (.cells #[.int .i64 0, .int .i64 0, .int .i64 0, .int .i64 0, .int .i64 0] 133) = w6 := ⟨_, rfl⟩
  have HW6 := Lib.hid hw6
  have HX6 : Hid (Ext w1 w6) := Lib.hid (by rw [← hw6]; exact HX5.out.alloc _)
  have HQ6 : Hid (w6.heap[w1.heap.size]? = some (.cells #[.int .i64 fn, .int .i64 pc, .int .i64 st, .int .i64 m, .int .i64 sq] 72 (0, 0))) := Lib.hid (by rw [← hw6]; exact blk_alloc HQ5.out _)
  have HQW : Hid (w6.heap[w5.heap.size]? = some (.cells #[.int .i64 0, .int .i64 0, .int .i64 0, .int .i64 0, .int .i64 0] 133 (0, 0))) := Lib.hid (by rw [← hw6]; exact blk_new w5 _)
  have HS5 : Hid (w1.heap.size ≤ w5.heap.size ∧ w1.heap.size < w5.heap.size) := Lib.hid ⟨HX5.out.size, blk_lt HQ5.out⟩
  clear hw6
  go_upto_region 5 with fail
  rw [HW6.out]
  have z2 := blk_cell HQ6.out 2 _ rfl
  by_cases s1 : st < 1
  · have HNO : Hid (s.stands k ⟨fn, pc, st, m, sq⟩ = false) := Lib.hid (by rw [HST.out, decide_eq_false (by simp only; omega)]; rfl)
    go_wp2
    (go_ret; exact ⟨by rw [HNO.out] <;> rfl, HX1.out.trans HX6.out⟩)
  by_cases s5 : 5 < st
  · have HNO : Hid (s.stands k ⟨fn, pc, st, m, sq⟩ = false) := Lib.hid (by rw [HST.out, decide_eq_false (by simp only; omega)]; rfl)
    go_wp2
    (go_ret; exact ⟨by rw [HNO.out] <;> rfl, HX1.out.trans HX6.out⟩)
  clear z2
  obtain rfl | rfl | rfl | rfl | rfl : st = 1 ∨ st = 2 ∨ st = 3 ∨ st = 4 ∨ st = 5 := by omega
  · clear s1 s5
    obtain ⟨w7, hw7⟩ : ∃ w7, w6.setCell ⟨w5.heap.size, 0, none⟩ (.int .i64 1) = w7 := ⟨_, rfl⟩
    have HW7 := Lib.hid hw7
    have HX7 : Hid (Ext w1 w7) := Lib.hid (by rw [← hw7]; exact HX6.out.setCell HS5.out.1 _)
    have hqw : w7.heap[w5.heap.size]? = some (.cells #[.int .i64 1, .int .i64 0, .int .i64 0, .int .i64 0, .int .i64 0] 133 (0, 0)) := by rw [← hw7]; exact blk_set HQW.out 0 _
    have HQ7 : Hid (w7.heap[w1.heap.size]? = some (.cells #[.int .i64 fn, .int .i64 pc, .int .i64 1, .int .i64 m, .int .i64 sq] 72 (0, 0))) := Lib.hid (by rw [← hw7]; exact blk_set_other HQ6.out _ (by have := HS5.out.2; simp only; omega) _)
    have z2 := blk_cell HQ6.out 2 _ rfl
    have v0 := blk_cell HQW.out 0 _ rfl
    have fz := frozen_of_row _ _ 0 _ _ HQW.out
    have x0 := blk_cell hqw 0 _ rfl
    have x1 := blk_cell hqw 1 _ rfl
    have x2 := blk_cell hqw 2 _ rfl
    have x3 := blk_cell hqw 3 _ rfl
    have y2 := blk_cell HQ7.out 2 _ rfl
    have y3 := blk_cell HQ7.out 3 _ rfl
    have q3 := st3 (HX7.out.blk HB1.out)
    clear hw7 hqw
    go_upto_region 8 with (rw [HW7.out])
    clear z2 v0 fz
    by_cases ena : na = 1
    rotate_left 1
    · have HNO : Hid (s.stands k ⟨fn, pc, 1, m, sq⟩ = false) := Lib.hid (by
        rw [HST.out, decide_eq_false (p := _ ∧ _ ∧ _ ∧ _) (fun hh => ena (by have := hh.1; simpa [St.want] using this))]
        simp)
      have dna : ((na : Int) != 1) = true := by simp; omega
      clear ena
      go_wp2
      go_ret
      exact ⟨by rw [HNO.out] <;> rfl, HX1.out.trans HX7.out⟩
    have dna : ((na : Int) != 1) = false := by simp; omega
    by_cases enc : nc = 0
    rotate_left 1
    · have HNO : Hid (s.stands k ⟨fn, pc, 1, m, sq⟩ = false) := Lib.hid (by
        rw [HST.out, decide_eq_false (p := _ ∧ _ ∧ _ ∧ _) (fun hh => enc (by have := hh.2.1; simpa [St.want] using this))]
        simp)
      have dnc : ((nc : Int) != 0) = true := by simp; omega
      clear enc
      go_wp2
      go_ret
      exact ⟨by rw [HNO.out] <;> rfl, HX1.out.trans HX7.out⟩
    have dnc : ((nc : Int) != 0) = false := by simp; omega
    by_cases enb : nb = 0
    rotate_left 1
    · have HNO : Hid (s.stands k ⟨fn, pc, 1, m, sq⟩ = false) := Lib.hid (by
        rw [HST.out, decide_eq_false (p := _ ∧ _ ∧ _ ∧ _) (fun hh => enb (by have := hh.2.2.1; simpa [St.want] using this))]
        simp)
      have dnb : ((nb : Int) != 0) = true := by simp; omega
      clear enb
      go_wp2
      go_ret
      exact ⟨by rw [HNO.out] <;> rfl, HX1.out.trans HX7.out⟩
    have dnb : ((nb : Int) != 0) = false := by simp; omega
    by_cases ed : nd = 0
    rotate_left 1
    · have HNO : Hid (s.stands k ⟨fn, pc, 1, m, sq⟩ = false) := Lib.hid (by
        rw [HST.out, decide_eq_false (p := _ ∧ _ ∧ _ ∧ _) (fun hh => ed (by have := hh.2.2.2; simpa [St.want] using this))]
        simp)
      have dnd : ((nd : Int) != 0) = true := by simp; omega
      clear ed
      go_wp2
      go_ret
      exact ⟨by rw [HNO.out] <;> rfl, HX1.out.trans HX7.out⟩
    have dnd : ((nd : Int) != 0) = false := by simp; omega
    have HEQ : Hid (s.stands k ⟨fn, pc, 1, m, sq⟩ = decide (m = 0)) := Lib.hid (by
      rw [HST.out, decide_eq_true (by simp), if_pos (by simp), decide_eq_true (p := _ ∧ _ ∧ _ ∧ _) (by simp [St.want, ena, enb, enc, ed])]
      simp)
    clear ena enb enc ed
    by_cases d0 : m = 0
    · have HYES : Hid (s.stands k ⟨fn, pc, 1, m, sq⟩ = true) := Lib.hid (by rw [HEQ.out, decide_eq_true d0])
      subst d0
      go_wp2
      go_ret
      exact ⟨by rw [HYES.out] <;> rfl, HX1.out.trans HX7.out⟩
    · have HNO : Hid (s.stands k ⟨fn, pc, 1, m, sq⟩ = false) := Lib.hid (by rw [HEQ.out, decide_eq_false d0])
      have d0' : (m == 0) = false := by simpa using d0
      clear d0
      go_wp2
      go_ret
      exact ⟨by rw [HNO.out] <;> rfl, HX1.out.trans HX7.out⟩
  · clear s1 s5
    obtain ⟨w7, hw7⟩ : ∃ w7, w6.setCell ⟨w5.heap.size, 1, none⟩ (.int .i64 1) = w7 := ⟨_, rfl⟩
    have HW7 := Lib.hid hw7
    have HX7 : Hid (Ext w1 w7) := Lib.hid (by rw [← hw7]; exact HX6.out.setCell HS5.out.1 _)
    have hqw : w7.heap[w5.heap.size]? = some (.cells #[.int .i64 0, .int .i64 1, .int .i64 0, .int .i64 0, .int .i64 0] 133 (0, 0)) := by rw [← hw7]; exact blk_set HQW.out 1 _
    have HQ7 : Hid (w7.heap[w1.heap.size]? = some (.cells #[.int .i64 fn, .int .i64 pc, .int .i64 2, .int .i64 m, .int .i64 sq] 72 (0, 0))) := Lib.hid (by rw [← hw7]; exact blk_set_other HQ6.out _ (by have := HS5.out.2; simp only; omega) _)
    have z2 := blk_cell HQ6.out 2 _ rfl
    have v1 := blk_cell HQW.out 1 _ rfl
    have fz := frozen_of_row _ _ 1 _ _ HQW.out
    have x0 := blk_cell hqw 0 _ rfl
    have x1 := blk_cell hqw 1 _ rfl
    have x2 := blk_cell hqw 2 _ rfl
    have x3 := blk_cell hqw 3 _ rfl
    have y2 := blk_cell HQ7.out 2 _ rfl
    have y3 := blk_cell HQ7.out 3 _ rfl
    have q3 := st3 (HX7.out.blk HB1.out)
    clear hw7 hqw
    go_upto_region 8 with (rw [HW7.out])
    clear z2 v1 fz
    by_cases ena : na = 0
    rotate_left 1
    · have HNO : Hid (s.stands k ⟨fn, pc, 2, m, sq⟩ = false) := Lib.hid (by
        rw [HST.out, decide_eq_false (p := _ ∧ _ ∧ _ ∧ _) (fun hh => ena (by have := hh.1; simpa [St.want] using this))]
        simp)
      have dna : ((na : Int) != 0) = true := by simp; omega
      clear ena
      go_wp2
      go_ret
      exact ⟨by rw [HNO.out] <;> rfl, HX1.out.trans HX7.out⟩
    have dna : ((na : Int) != 0) = false := by simp; omega
    by_cases enc : nc = 1
    rotate_left 1
    · have HNO : Hid (s.stands k ⟨fn, pc, 2, m, sq⟩ = false) := Lib.hid (by
        rw [HST.out, decide_eq_false (p := _ ∧ _ ∧ _ ∧ _) (fun hh => enc (by have := hh.2.1; simpa [St.want] using this))]
        simp)
      have dnc : ((nc : Int) != 1) = true := by simp; omega
      clear enc
      go_wp2
      go_ret
      exact ⟨by rw [HNO.out] <;> rfl, HX1.out.trans HX7.out⟩
    have dnc : ((nc : Int) != 1) = false := by simp; omega
    by_cases enb : nb = 0
    rotate_left 1
    · have HNO : Hid (s.stands k ⟨fn, pc, 2, m, sq⟩ = false) := Lib.hid (by
        rw [HST.out, decide_eq_false (p := _ ∧ _ ∧ _ ∧ _) (fun hh => enb (by have := hh.2.2.1; simpa [St.want] using this))]
        simp)
      have dnb : ((nb : Int) != 0) = true := by simp; omega
      clear enb
      go_wp2
      go_ret
      exact ⟨by rw [HNO.out] <;> rfl, HX1.out.trans HX7.out⟩
    have dnb : ((nb : Int) != 0) = false := by simp; omega
    by_cases ed : nd = 0
    rotate_left 1
    · have HNO : Hid (s.stands k ⟨fn, pc, 2, m, sq⟩ = false) := Lib.hid (by
        rw [HST.out, decide_eq_false (p := _ ∧ _ ∧ _ ∧ _) (fun hh => ed (by have := hh.2.2.2; simpa [St.want] using this))]
        simp)
      have dnd : ((nd : Int) != 0) = true := by simp; omega
      clear ed
      go_wp2
      go_ret
      exact ⟨by rw [HNO.out] <;> rfl, HX1.out.trans HX7.out⟩
    have dnd : ((nd : Int) != 0) = false := by simp; omega
    have HEQ : Hid (s.stands k ⟨fn, pc, 2, m, sq⟩ = (decide (1 ≤ m ∧ m ≤ s.ms.length) && decide ((s.ms.getD (m - 1).toNat (0, 0)).2 = k + 1))) := Lib.hid (by
      rw [HST.out, decide_eq_true (by simp), if_neg (by simp), decide_eq_true (p := _ ∧ _ ∧ _ ∧ _) (by simp [St.want, ena, enb, enc, ed])]
      simp)
    clear ena enb enc ed
    by_cases m1 : m < 1
    · have HNO : Hid (s.stands k ⟨fn, pc, 2, m, sq⟩ = false) := Lib.hid (by rw [HEQ.out, decide_eq_false (by omega)]; rfl)
      go_wp2
      go_ret
      exact ⟨by rw [HNO.out] <;> rfl, HX1.out.trans HX7.out⟩
    by_cases m2 : (s.ms.length : Int) < m
    · have HNO : Hid (s.stands k ⟨fn, pc, 2, m, sq⟩ = false) := Lib.hid (by rw [HEQ.out, decide_eq_false (by omega)]; rfl)
      go_wp2
      go_ret
      exact ⟨by rw [HNO.out] <;> rfl, HX1.out.trans HX7.out⟩
    have m1' : 1 ≤ m := by omega
    have m2' : m ≤ (s.ms.length : Int) := by omega
    obtain ⟨j, hj⟩ : ∃ j : Nat, m = (j : Int) + 1 := ⟨(m - 1).toNat, by omega⟩
    subst hj
    obtain ⟨x, hx⟩ : ∃ x, s.ms[j]? = some x := ⟨_, List.getElem?_eq_getElem (by omega)⟩
    obtain ⟨bm, om, hAm, hbm, c0, c1⟩ := frs2_get (HK1.out.ext HX7.out).ms hx
    have HMX : Hid ((s.ms.getD ((j : Int) + 1 - 1).toNat (0, 0)).2 = x.2) := Lib.hid (by rw [show ((j : Int) + 1 - 1).toNat = j by omega, List.getD, hx]; rfl)
    have e6 : (j : Int) + 1 - 1 = (j : Int) := by omega
    have e7 : (j : Int) < (s.ms.length : Int) := by omega
    obtain ⟨xp, xg⟩ := x
    simp only at HMX c1
    clear hx hbm c0 m1 m2
    by_cases d0 : xg = (k : Int) + 1
    · have HYES : Hid (s.stands k ⟨fn, pc, 2, ((j : Int) + 1), sq⟩ = true) := Lib.hid (by rw [HEQ.out, HMX.out, decide_eq_true d0, decide_eq_true (by omega)]; rfl)
      subst d0
      go_wp2
      go_ret
      exact ⟨by rw [HYES.out] <;> rfl, HX1.out.trans HX7.out⟩
    · have HNO : Hid (s.stands k ⟨fn, pc, 2, ((j : Int) + 1), sq⟩ = false) := Lib.hid (by rw [HEQ.out, HMX.out, decide_eq_false d0, Bool.and_false])
      have d0' : (xg == (k : Int) + 1) = false := by simpa using d0
      clear d0
      go_wp2
      go_ret
      exact ⟨by rw [HNO.out] <;> rfl, HX1.out.trans HX7.out⟩
  · clear s1 s5
    obtain ⟨w7, hw7⟩ : ∃ w7, w6.setCell ⟨w5.heap.size, 2, none⟩ (.int .i64 1) = w7 := ⟨_, rfl⟩
    have HW7 := Lib.hid hw7
    have HX7 : Hid (Ext w1 w7) := Lib.hid (by rw [← hw7]; exact HX6.out.setCell HS5.out.1 _)
    have hqw : w7.heap[w5.heap.size]? = some (.cells #[.int .i64 0, .int .i64 0, .int .i64 1, .int .i64 0, .int .i64 0] 133 (0, 0)) := by rw [← hw7]; exact blk_set HQW.out 2 _
    have HQ7 : Hid (w7.heap[w1.heap.size]? = some (.cells #[.int .i64 fn, .int .i64 pc, .int .i64 3, .int .i64 m, .int .i64 sq] 72 (0, 0))) := Lib.hid (by rw [← hw7]; exact blk_set_other HQ6.out _ (by have := HS5.out.2; simp only; omega) _)
    have z2 := blk_cell HQ6.out 2 _ rfl
    have v2 := blk_cell HQW.out 2 _ rfl
    have fz := frozen_of_row _ _ 2 _ _ HQW.out
    have x0 := blk_cell hqw 0 _ rfl
    have x1 := blk_cell hqw 1 _ rfl
    have x2 := blk_cell hqw 2 _ rfl
    have x3 := blk_cell hqw 3 _ rfl
    have y2 := blk_cell HQ7.out 2 _ rfl
    have y3 := blk_cell HQ7.out 3 _ rfl
    have q3 := st3 (HX7.out.blk HB1.out)
    clear hw7 hqw
    go_upto_region 8 with (rw [HW7.out])
    clear z2 v2 fz
    by_cases ena : na = 0
    rotate_left 1
    · have HNO : Hid (s.stands k ⟨fn, pc, 3, m, sq⟩ = false) := Lib.hid (by
        rw [HST.out, decide_eq_false (p := _ ∧ _ ∧ _ ∧ _) (fun hh => ena (by have := hh.1; simpa [St.want] using this))]
        simp)
      have dna : ((na : Int) != 0) = true := by simp; omega
      clear ena
      go_wp2
      go_ret
      exact ⟨by rw [HNO.out] <;> rfl, HX1.out.trans HX7.out⟩
    have dna : ((na : Int) != 0) = false := by simp; omega
    by_cases enc : nc = 0
    rotate_left 1
    · have HNO : Hid (s.stands k ⟨fn, pc, 3, m, sq⟩ = false) := Lib.hid (by
        rw [HST.out, decide_eq_false (p := _ ∧ _ ∧ _ ∧ _) (fun hh => enc (by have := hh.2.1; simpa [St.want] using this))]
        simp)
      have dnc : ((nc : Int) != 0) = true := by simp; omega
      clear enc
      go_wp2
      go_ret
      exact ⟨by rw [HNO.out] <;> rfl, HX1.out.trans HX7.out⟩
    have dnc : ((nc : Int) != 0) = false := by simp; omega
    by_cases enb : nb = 1
    rotate_left 1
    · have HNO : Hid (s.stands k ⟨fn, pc, 3, m, sq⟩ = false) := Lib.hid (by
        rw [HST.out, decide_eq_false (p := _ ∧ _ ∧ _ ∧ _) (fun hh => enb (by have := hh.2.2.1; simpa [St.want] using this))]
        simp)
      have dnb : ((nb : Int) != 1) = true := by simp; omega
      clear enb
      go_wp2
      go_ret
      exact ⟨by rw [HNO.out] <;> rfl, HX1.out.trans HX7.out⟩
    have dnb : ((nb : Int) != 1) = false := by simp; omega
    by_cases ed : nd = 0
    rotate_left 1
    · have HNO : Hid (s.stands k ⟨fn, pc, 3, m, sq⟩ = false) := Lib.hid (by
        rw [HST.out, decide_eq_false (p := _ ∧ _ ∧ _ ∧ _) (fun hh => ed (by have := hh.2.2.2; simpa [St.want] using this))]
        simp)
      have dnd : ((nd : Int) != 0) = true := by simp; omega
      clear ed
      go_wp2
      go_ret
      exact ⟨by rw [HNO.out] <;> rfl, HX1.out.trans HX7.out⟩
    have dnd : ((nd : Int) != 0) = false := by simp; omega
    have HEQ : Hid (s.stands k ⟨fn, pc, 3, m, sq⟩ = decide (m = 0)) := Lib.hid (by
      rw [HST.out, decide_eq_true (by simp), if_pos (by simp), decide_eq_true (p := _ ∧ _ ∧ _ ∧ _) (by simp [St.want, ena, enb, enc, ed])]
      simp)
    clear ena enb enc ed
    by_cases d0 : m = 0
    · have HYES : Hid (s.stands k ⟨fn, pc, 3, m, sq⟩ = true) := Lib.hid (by rw [HEQ.out, decide_eq_true d0])
      subst d0
      go_wp2
      go_ret
      exact ⟨by rw [HYES.out] <;> rfl, HX1.out.trans HX7.out⟩
    · have HNO : Hid (s.stands k ⟨fn, pc, 3, m, sq⟩ = false) := Lib.hid (by rw [HEQ.out, decide_eq_false d0])
      have d0' : (m == 0) = false := by simpa using d0
      clear d0
      go_wp2
      go_ret
      exact ⟨by rw [HNO.out] <;> rfl, HX1.out.trans HX7.out⟩
  · clear s1 s5
    obtain ⟨w7, hw7⟩ : ∃ w7, w6.setCell ⟨w5.heap.size, 3, none⟩ (.int .i64 1) = w7 := ⟨_, rfl⟩
    have HW7 := Lib.hid hw7
    have HX7 : Hid (Ext w1 w7) := Lib.hid (by rw [← hw7]; exact HX6.out.setCell HS5.out.1 _)
    have hqw : w7.heap[w5.heap.size]? = some (.cells #[.int .i64 0, .int .i64 0, .int .i64 0, .int .i64 1, .int .i64 0] 133 (0, 0)) := by rw [← hw7]; exact blk_set HQW.out 3 _
    have HQ7 : Hid (w7.heap[w1.heap.size]? = some (.cells #[.int .i64 fn, .int .i64 pc, .int .i64 4, .int .i64 m, .int .i64 sq] 72 (0, 0))) := Lib.hid (by rw [← hw7]; exact blk_set_other HQ6.out _ (by have := HS5.out.2; simp only; omega) _)
    have z2 := blk_cell HQ6.out 2 _ rfl
    have v3 := blk_cell HQW.out 3 _ rfl
    have fz := frozen_of_row _ _ 3 _ _ HQW.out
    have x0 := blk_cell hqw 0 _ rfl
    have x1 := blk_cell hqw 1 _ rfl
    have x2 := blk_cell hqw 2 _ rfl
    have x3 := blk_cell hqw 3 _ rfl
    have y2 := blk_cell HQ7.out 2 _ rfl
    have y3 := blk_cell HQ7.out 3 _ rfl
    have q3 := st3 (HX7.out.blk HB1.out)
    clear hw7 hqw
    go_upto_region 8 with (rw [HW7.out])
    clear z2 v3 fz
    by_cases ena : na = 0
    rotate_left 1
    · have HNO : Hid (s.stands k ⟨fn, pc, 4, m, sq⟩ = false) := Lib.hid (by
        rw [HST.out, decide_eq_false (p := _ ∧ _ ∧ _ ∧ _) (fun hh => ena (by have := hh.1; simpa [St.want] using this))]
        simp)
      have dna : ((na : Int) != 0) = true := by simp; omega
      clear ena
      go_wp2
      go_ret
      exact ⟨by rw [HNO.out] <;> rfl, HX1.out.trans HX7.out⟩
    have dna : ((na : Int) != 0) = false := by simp; omega
    by_cases enc : nc = 0
    rotate_left 1
    · have HNO : Hid (s.stands k ⟨fn, pc, 4, m, sq⟩ = false) := Lib.hid (by
        rw [HST.out, decide_eq_false (p := _ ∧ _ ∧ _ ∧ _) (fun hh => enc (by have := hh.2.1; simpa [St.want] using this))]
        simp)
      have dnc : ((nc : Int) != 0) = true := by simp; omega
      clear enc
      go_wp2
      go_ret
      exact ⟨by rw [HNO.out] <;> rfl, HX1.out.trans HX7.out⟩
    have dnc : ((nc : Int) != 0) = false := by simp; omega
    by_cases enb : nb = 0
    rotate_left 1
    · have HNO : Hid (s.stands k ⟨fn, pc, 4, m, sq⟩ = false) := Lib.hid (by
        rw [HST.out, decide_eq_false (p := _ ∧ _ ∧ _ ∧ _) (fun hh => enb (by have := hh.2.2.1; simpa [St.want] using this))]
        simp)
      have dnb : ((nb : Int) != 0) = true := by simp; omega
      clear enb
      go_wp2
      go_ret
      exact ⟨by rw [HNO.out] <;> rfl, HX1.out.trans HX7.out⟩
    have dnb : ((nb : Int) != 0) = false := by simp; omega
    by_cases ed : nd = 1
    rotate_left 1
    · have HNO : Hid (s.stands k ⟨fn, pc, 4, m, sq⟩ = false) := Lib.hid (by
        rw [HST.out, decide_eq_false (p := _ ∧ _ ∧ _ ∧ _) (fun hh => ed (by have := hh.2.2.2; simpa [St.want] using this))]
        simp)
      have dnd : ((nd : Int) != 1) = true := by simp; omega
      clear ed
      go_wp2
      go_ret
      exact ⟨by rw [HNO.out] <;> rfl, HX1.out.trans HX7.out⟩
    have dnd : ((nd : Int) != 1) = false := by simp; omega
    have HEQ : Hid (s.stands k ⟨fn, pc, 4, m, sq⟩ = (decide (1 ≤ m ∧ m ≤ s.ms.length) && decide ((s.ms.getD (m - 1).toNat (0, 0)).2 = k + 1))) := Lib.hid (by
      rw [HST.out, decide_eq_true (by simp), if_neg (by simp), decide_eq_true (p := _ ∧ _ ∧ _ ∧ _) (by simp [St.want, ena, enb, enc, ed])]
      simp)
    clear ena enb enc ed
    by_cases m1 : m < 1
    · have HNO : Hid (s.stands k ⟨fn, pc, 4, m, sq⟩ = false) := Lib.hid (by rw [HEQ.out, decide_eq_false (by omega)]; rfl)
      go_wp2
      go_ret
      exact ⟨by rw [HNO.out] <;> rfl, HX1.out.trans HX7.out⟩
    by_cases m2 : (s.ms.length : Int) < m
    · have HNO : Hid (s.stands k ⟨fn, pc, 4, m, sq⟩ = false) := Lib.hid (by rw [HEQ.out, decide_eq_false (by omega)]; rfl)
      go_wp2
      go_ret
      exact ⟨by rw [HNO.out] <;> rfl, HX1.out.trans HX7.out⟩
    have m1' : 1 ≤ m := by omega
    have m2' : m ≤ (s.ms.length : Int) := by omega
    obtain ⟨j, hj⟩ : ∃ j : Nat, m = (j : Int) + 1 := ⟨(m - 1).toNat, by omega⟩
    subst hj
    obtain ⟨x, hx⟩ : ∃ x, s.ms[j]? = some x := ⟨_, List.getElem?_eq_getElem (by omega)⟩
    obtain ⟨bm, om, hAm, hbm, c0, c1⟩ := frs2_get (HK1.out.ext HX7.out).ms hx
    have HMX : Hid ((s.ms.getD ((j : Int) + 1 - 1).toNat (0, 0)).2 = x.2) := Lib.hid (by rw [show ((j : Int) + 1 - 1).toNat = j by omega, List.getD, hx]; rfl)
    have e6 : (j : Int) + 1 - 1 = (j : Int) := by omega
    have e7 : (j : Int) < (s.ms.length : Int) := by omega
    obtain ⟨xp, xg⟩ := x
    simp only at HMX c1
    clear hx hbm c0 m1 m2
    by_cases d0 : xg = (k : Int) + 1
    · have HYES : Hid (s.stands k ⟨fn, pc, 4, ((j : Int) + 1), sq⟩ = true) := Lib.hid (by rw [HEQ.out, HMX.out, decide_eq_true d0, decide_eq_true (by omega)]; rfl)
      subst d0
      go_wp2
      go_ret
      exact ⟨by rw [HYES.out] <;> rfl, HX1.out.trans HX7.out⟩
    · have HNO : Hid (s.stands k ⟨fn, pc, 4, ((j : Int) + 1), sq⟩ = false) := Lib.hid (by rw [HEQ.out, HMX.out, decide_eq_false d0, Bool.and_false])
      have d0' : (xg == (k : Int) + 1) = false := by simpa using d0
      clear d0
      go_wp2
      go_ret
      exact ⟨by rw [HNO.out] <;> rfl, HX1.out.trans HX7.out⟩
  · clear s1 s5
    obtain ⟨w7, hw7⟩ : ∃ w7, w6.setCell ⟨w5.heap.size, 4, none⟩ (.int .i64 1) = w7 := ⟨_, rfl⟩
    have HW7 := Lib.hid hw7
    have HX7 : Hid (Ext w1 w7) := Lib.hid (by rw [← hw7]; exact HX6.out.setCell HS5.out.1 _)
    have hqw : w7.heap[w5.heap.size]? = some (.cells #[.int .i64 0, .int .i64 0, .int .i64 0, .int .i64 0, .int .i64 1] 133 (0, 0)) := by rw [← hw7]; exact blk_set HQW.out 4 _
    have HQ7 : Hid (w7.heap[w1.heap.size]? = some (.cells #[.int .i64 fn, .int .i64 pc, .int .i64 5, .int .i64 m, .int .i64 sq] 72 (0, 0))) := Lib.hid (by rw [← hw7]; exact blk_set_other HQ6.out _ (by have := HS5.out.2; simp only; omega) _)
    have z2 := blk_cell HQ6.out 2 _ rfl
    have v4 := blk_cell HQW.out 4 _ rfl
    have fz := frozen_of_row _ _ 4 _ _ HQW.out
    have x0 := blk_cell hqw 0 _ rfl
    have x1 := blk_cell hqw 1 _ rfl
    have x2 := blk_cell hqw 2 _ rfl
    have x3 := blk_cell hqw 3 _ rfl
    have y2 := blk_cell HQ7.out 2 _ rfl
    have y3 := blk_cell HQ7.out 3 _ rfl
    have q3 := st3 (HX7.out.blk HB1.out)
    clear hw7 hqw
    go_upto_region 8 with (rw [HW7.out])
    clear z2 v4 fz
    by_cases ena : na = 0
    rotate_left 1
    · have HNO : Hid (s.stands k ⟨fn, pc, 5, m, sq⟩ = false) := Lib.hid (by
        rw [HST.out, decide_eq_false (p := _ ∧ _ ∧ _ ∧ _) (fun hh => ena (by have := hh.1; simpa [St.want] using this))]
        simp)
      have dna : ((na : Int) != 0) = true := by simp; omega
      clear ena
      go_wp2
      go_ret
      exact ⟨by rw [HNO.out] <;> rfl, HX1.out.trans HX7.out⟩
    have dna : ((na : Int) != 0) = false := by simp; omega
    by_cases enc : nc = 0
    rotate_left 1
    · have HNO : Hid (s.stands k ⟨fn, pc, 5, m, sq⟩ = false) := Lib.hid (by
        rw [HST.out, decide_eq_false (p := _ ∧ _ ∧ _ ∧ _) (fun hh => enc (by have := hh.2.1; simpa [St.want] using this))]
        simp)
      have dnc : ((nc : Int) != 0) = true := by simp; omega
      clear enc
      go_wp2
      go_ret
      exact ⟨by rw [HNO.out] <;> rfl, HX1.out.trans HX7.out⟩
    have dnc : ((nc : Int) != 0) = false := by simp; omega
    by_cases enb : nb = 0
    rotate_left 1
    · have HNO : Hid (s.stands k ⟨fn, pc, 5, m, sq⟩ = false) := Lib.hid (by
        rw [HST.out, decide_eq_false (p := _ ∧ _ ∧ _ ∧ _) (fun hh => enb (by have := hh.2.2.1; simpa [St.want] using this))]
        simp)
      have dnb : ((nb : Int) != 0) = true := by simp; omega
      clear enb
      go_wp2
      go_ret
      exact ⟨by rw [HNO.out] <;> rfl, HX1.out.trans HX7.out⟩
    have dnb : ((nb : Int) != 0) = false := by simp; omega
    by_cases ed : nd = 0
    rotate_left 1
    · have HNO : Hid (s.stands k ⟨fn, pc, 5, m, sq⟩ = false) := Lib.hid (by
        rw [HST.out, decide_eq_false (p := _ ∧ _ ∧ _ ∧ _) (fun hh => ed (by have := hh.2.2.2; simpa [St.want] using this))]
        simp)
      have dnd : ((nd : Int) != 0) = true := by simp; omega
      clear ed
      go_wp2
      go_ret
      exact ⟨by rw [HNO.out] <;> rfl, HX1.out.trans HX7.out⟩
    have dnd : ((nd : Int) != 0) = false := by simp; omega
    have HEQ : Hid (s.stands k ⟨fn, pc, 5, m, sq⟩ = decide (m = 0)) := Lib.hid (by
      rw [HST.out, decide_eq_true (by simp), if_pos (by simp), decide_eq_true (p := _ ∧ _ ∧ _ ∧ _) (by simp [St.want, ena, enb, enc, ed])]
      simp)
    clear ena enb enc ed
    by_cases d0 : m = 0
    · have HYES : Hid (s.stands k ⟨fn, pc, 5, m, sq⟩ = true) := Lib.hid (by rw [HEQ.out, decide_eq_true d0])
      subst d0
      go_wp2
      go_ret
      exact ⟨by rw [HYES.out] <;> rfl, HX1.out.trans HX7.out⟩
    · have HNO : Hid (s.stands k ⟨fn, pc, 5, m, sq⟩ = false) := Lib.hid (by rw [HEQ.out, decide_eq_false d0])
      have d0' : (m == 0) = false := by simpa using d0
      clear d0
      go_wp2
      go_ret
      exact ⟨by rw [HNO.out] <;> rfl, HX1.out.trans HX7.out⟩
end Go.Proofs.Ytdcbaddndoilfaa
