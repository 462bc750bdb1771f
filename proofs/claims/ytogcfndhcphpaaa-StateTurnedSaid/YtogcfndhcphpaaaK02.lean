/-
  Several texts in one: Nd, Ne, Nf.
-/
import Derived.Test.YtogcfndhcphpaaaK01
import Derived.ChangeKeysEq
import Derived.Deep.DeepCutAuto
/-
  The contract of ring.May, in all.
-/
set_option linter.unusedVariables false
set_option linter.unusedSimpArgs false
namespace Go.Proofs.Ytogcfndhcphpaaa
open Go.RowKit Go.Shelf
attribute [local go_sem] Oper.semAt_some

theorem keepsAt_t (g : Nat) {A B C : World} (h : KeepsAt g A B) (k : KeepsAt g B C) : KeepsAt g A C := fun o ho => k o (h o ho)
theorem keepsAt_b {g : Nat} {w : World} (hg : g < w.heap.size) (W : World) (l : Nat) (o o' : Obj) (hl : w.heap.size ≤ l) (_ : W.heap[l]? = some o) (_ : o.isCells = false) (_ : o.isWalk = false) : KeepsAt g W (W.putObj l o') :=
  fun _ h => (World.putObj_heap_other (by omega)).trans h
theorem keepsAt_set {g b : Nat} (W : World) (hne : b ≠ g) (i : Nat) (v : Value) : KeepsAt g W (W.setCell ⟨b, i, none⟩ v) := fun _ h => blk_set_other h _ hne v
theorem blk_own {β : Type} (B : Nat) (f : β → Obj) (hf : ∀ s, (f s).isCells = true) : Own (fun s (W : World) => W.heap[B]? = some (f s)) := fun s X Y row hs hg hrow =>
  (hg.block B (blk_lt hs) (fun e' => by obtain ⟨o, ho, hc⟩ := hrow B e'.symm; rw [hs] at ho; cases ho; rw [hf s] at hc; cases hc)).trans hs
/-- The cells of a buffer. -/
def bufCells (bs : List Int) : Array Value := (bs.map (Value.int .i64)).toArray
theorem bufCells_at {bs : List Int} {j : Nat} (hj : j < bs.length) : (bufCells bs)[j]? = some (.int .i64 bs[j]) := by
  unfold bufCells; rw [List.getElem?_toArray, List.getElem?_map, List.getElem?_eq_getElem hj]; rfl
theorem bufCells_set (bs : List Int) (j : Nat) (x : Int) : (bufCells bs).setIfInBounds j (.int .i64 x) = bufCells (bs.set j x) := by
  unfold bufCells; rw [List.setIfInBounds_toArray, List.map_set]
theorem run_eqItems_ints (d : Nat) (f g : Nat → Int) (xs ys : Array Value) (w : World) : ∀ is : List Nat, (∀ i ∈ is, xs[i]? = some (.int .i64 (f i)) ∧ ys[i]? = some (.int .i64 (g i))) →
    (Op.eqItems (d + 1) 3 1 xs ys is).run Try.prog w = .ok (is.all fun i => f i == g i) w
  | [], _ => by simp [Op.eqItems]
  | i :: is, h => by
    obtain ⟨h1, h2⟩ := h i (by simp)
    have ih := run_eqItems_ints d f g xs ys w is fun j hj => h j (by simp [hj])
    have p1 := run_part_plain (P := Try.prog) w (e := 3) (by kernel_rfl) (xs := xs) (off := i * 1) (by rw [Nat.mul_one]; exact h1)
    have p2 := run_part_plain (P := Try.prog) w (e := 3) (by kernel_rfl) (xs := ys) (off := i * 1) (by rw [Nat.mul_one]; exact h2)
    simp only [Op.eqItems, Sem.run_bind, p1, p2, Result.andThen_ok, run_equalIn_int w d 3 .i64 .i64 (f i) (g i) Try.underlying3, List.all_cons]
    cases hb : (f i == g i) with
    | false => simp
    | true => simpa using ih
set_option maxRecDepth 100000 in
theorem run_eq8 (bs cs : List Int) (hb : bs.length = 8) (hc : cs.length = 8) (b : Bool) (h : decide (bs = cs) = b) (w : World) :
    (Op.equalIn 10000 36 (.agg (bufCells bs)) (.agg (bufCells cs))).run Try.prog w = .ok b w := by
  obtain ⟨i, hi⟩ := info_of_underlying Try.underlying3
  have e1 : Try.prog.cellsOf 3 = 1 := by kernel_rfl
  rw [show 10000 = 9998 + 1 + 1 from rfl, run_equalIn_array (P := Try.prog) w (9998 + 1) _ _ Try.underlying36 hi, e1]
  rw [run_eqItems_ints 9998 (fun i => bs[i]?.getD 0) (fun i => cs[i]?.getD 0) _ _ w _ fun j hj => by
    have hj' := List.mem_range.1 hj
    rw [bufCells_at (by omega), bufCells_at (by omega), List.getElem?_eq_getElem (by omega), List.getElem?_eq_getElem (by omega)]
    exact ⟨rfl, rfl⟩]
  obtain ⟨b0, b1, b2, b3, b4, b5, b6, b7, rfl⟩ := list8 hb
  obtain ⟨c0, c1, c2, c3, c4, c5, c6, c7, rfl⟩ := list8 hc
  subst h
  congr 1
  rw [Bool.eq_iff_iff]
  simp [List.range_succ, List.all_append]
set_option maxRecDepth 100000 in
set_option maxHeartbeats 2000000 in
theorem rmay_in (b0 b1 b2 b3 b4 b5 b6 b7 : Int) (hd nn : Nat) (hhd : hd < 8) (hnn : nn ≤ 8) (m : Bool) (hm : Ri.may ⟨[b0, b1, b2, b3, b4, b5, b6, b7], hd, nn⟩ = m) (w : World) :
    Calls Try.prog 67 #[.agg #[.int .i64 b0, .int .i64 b1, .int .i64 b2, .int .i64 b3, .int .i64 b4, .int .i64 b5, .int .i64 b6, .int .i64 b7, .int .i64 (hd : Int), .int .i64 (nn : Int)]] w fun e w' => e = .returned (.bool m) ∧ Ext w w' := by
  have hmi := Ri.may_iff hhd hnn (bs := [b0, b1, b2, b3, b4, b5, b6, b7]) rfl
  rw [hm] at hmi
  have HMI := Lib.hid hmi
  clear hmi hm
  have i0 : (0 : Int) ≤ (hd : Int) := by omega
  have i1 : (hd : Int) < 8 := by omega
  have i2 : (0 : Int) ≤ (nn : Int) := by omega
  have i3 : (nn : Int) ≤ 8 := by omega
  refine (callsIn_wide (n := 3)).1 ?_
  have h1 : 1 ≤ 3 := by omega
  refine callsIn_of_wp_marks Try.func67 rfl trivial ?_ rfl
  simp only [Try.ntmps67, List.size_toArray, List.length_cons, List.length_nil, Nat.reduceAdd, Nat.reduceSub, Array.replicate_succ, Array.replicate_zero, List.push_toArray, List.append_toArray, List.nil_append, List.cons_append]
  gi_wp2_with (refine ⟨trivial, ?_⟩; gi_at_call 113; refine (elements_in Fence.wide (3 - 1) trivial rfl _ _ _ _ _ _ _ _ _ _ _).mono ?_; rintro e w' ⟨rfl, rfl⟩)
  have hA1 : ((((w.alloc (.cells #[.int .i64 b0, .int .i64 b1, .int .i64 b2, .int .i64 b3, .int .i64 b4, .int .i64 b5, .int .i64 b6, .int .i64 b7, .int .i64 (hd : Int), .int .i64 (nn : Int)] 38)).alloc (.cells #[.bool false] 4)).alloc (.cells #[.int .i64 b0, .int .i64 b1, .int .i64 b2, .int .i64 b3, .int .i64 b4, .int .i64 b5, .int .i64 b6, .int .i64 b7] 36)).alloc (.cells #[.int .i64 b0, .int .i64 b1, .int .i64 b2, .int .i64 b3, .int .i64 b4, .int .i64 b5, .int .i64 b6, .int .i64 b7, .int .i64 (hd : Int), .int .i64 (nn : Int)] 38)).heap[(w.heap.size + 1)]? = some (.cells #[.bool false] 4 (0, 0)) := by
    have := blk_alloc (blk_alloc (blk_new (w.alloc (.cells #[.int .i64 b0, .int .i64 b1, .int .i64 b2, .int .i64 b3, .int .i64 b4, .int .i64 b5, .int .i64 b6, .int .i64 b7, .int .i64 (hd : Int), .int .i64 (nn : Int)] 38)) (.cells #[.bool false] 4)) (.cells #[.int .i64 b0, .int .i64 b1, .int .i64 b2, .int .i64 b3, .int .i64 b4, .int .i64 b5, .int .i64 b6, .int .i64 b7] 36)) (.cells #[.int .i64 b0, .int .i64 b1, .int .i64 b2, .int .i64 b3, .int .i64 b4, .int .i64 b5, .int .i64 b6, .int .i64 b7, .int .i64 (hd : Int), .int .i64 (nn : Int)] 38)
    rwa [World.size_alloc] at this
  have hA2 : ((((w.alloc (.cells #[.int .i64 b0, .int .i64 b1, .int .i64 b2, .int .i64 b3, .int .i64 b4, .int .i64 b5, .int .i64 b6, .int .i64 b7, .int .i64 (hd : Int), .int .i64 (nn : Int)] 38)).alloc (.cells #[.bool false] 4)).alloc (.cells #[.int .i64 b0, .int .i64 b1, .int .i64 b2, .int .i64 b3, .int .i64 b4, .int .i64 b5, .int .i64 b6, .int .i64 b7] 36)).alloc (.cells #[.int .i64 b0, .int .i64 b1, .int .i64 b2, .int .i64 b3, .int .i64 b4, .int .i64 b5, .int .i64 b6, .int .i64 b7, .int .i64 (hd : Int), .int .i64 (nn : Int)] 38)).heap[(w.heap.size + 1 + 1)]? = some (.cells (bufCells [b0, b1, b2, b3, b4, b5, b6, b7]) 36 (0, 0)) := by
    have := blk_alloc (blk_new ((w.alloc (.cells #[.int .i64 b0, .int .i64 b1, .int .i64 b2, .int .i64 b3, .int .i64 b4, .int .i64 b5, .int .i64 b6, .int .i64 b7, .int .i64 (hd : Int), .int .i64 (nn : Int)] 38)).alloc (.cells #[.bool false] 4)) (.cells #[.int .i64 b0, .int .i64 b1, .int .i64 b2, .int .i64 b3, .int .i64 b4, .int .i64 b5, .int .i64 b6, .int .i64 b7] 36)) (.cells #[.int .i64 b0, .int .i64 b1, .int .i64 b2, .int .i64 b3, .int .i64 b4, .int .i64 b5, .int .i64 b6, .int .i64 b7, .int .i64 (hd : Int), .int .i64 (nn : Int)] 38)
    rwa [World.size_alloc, World.size_alloc] at this
  have hA3 : RingIn (w.heap.size + 1 + 1 + 1) ⟨[b0, b1, b2, b3, b4, b5, b6, b7], hd, nn⟩ ((((w.alloc (.cells #[.int .i64 b0, .int .i64 b1, .int .i64 b2, .int .i64 b3, .int .i64 b4, .int .i64 b5, .int .i64 b6, .int .i64 b7, .int .i64 (hd : Int), .int .i64 (nn : Int)] 38)).alloc (.cells #[.bool false] 4)).alloc (.cells #[.int .i64 b0, .int .i64 b1, .int .i64 b2, .int .i64 b3, .int .i64 b4, .int .i64 b5, .int .i64 b6, .int .i64 b7] 36)).alloc (.cells #[.int .i64 b0, .int .i64 b1, .int .i64 b2, .int .i64 b3, .int .i64 b4, .int .i64 b5, .int .i64 b6, .int .i64 b7, .int .i64 (hd : Int), .int .i64 (nn : Int)] 38)) := by
    have := blk_new (((w.alloc (.cells #[.int .i64 b0, .int .i64 b1, .int .i64 b2, .int .i64 b3, .int .i64 b4, .int .i64 b5, .int .i64 b6, .int .i64 b7, .int .i64 (hd : Int), .int .i64 (nn : Int)] 38)).alloc (.cells #[.bool false] 4)).alloc (.cells #[.int .i64 b0, .int .i64 b1, .int .i64 b2, .int .i64 b3, .int .i64 b4, .int .i64 b5, .int .i64 b6, .int .i64 b7] 36)) (.cells #[.int .i64 b0, .int .i64 b1, .int .i64 b2, .int .i64 b3, .int .i64 b4, .int .i64 b5, .int .i64 b6, .int .i64 b7, .int .i64 (hd : Int), .int .i64 (nn : Int)] 38)
    rwa [World.size_alloc, World.size_alloc, World.size_alloc] at this
  have hX0 : Ext w ((((w.alloc (.cells #[.int .i64 b0, .int .i64 b1, .int .i64 b2, .int .i64 b3, .int .i64 b4, .int .i64 b5, .int .i64 b6, .int .i64 b7, .int .i64 (hd : Int), .int .i64 (nn : Int)] 38)).alloc (.cells #[.bool false] 4)).alloc (.cells #[.int .i64 b0, .int .i64 b1, .int .i64 b2, .int .i64 b3, .int .i64 b4, .int .i64 b5, .int .i64 b6, .int .i64 b7] 36)).alloc (.cells #[.int .i64 b0, .int .i64 b1, .int .i64 b2, .int .i64 b3, .int .i64 b4, .int .i64 b5, .int .i64 b6, .int .i64 b7, .int .i64 (hd : Int), .int .i64 (nn : Int)] 38)) := ((((Ext.refl w).alloc _).alloc _).alloc _).alloc _
  have hS3 : ((((w.alloc (.cells #[.int .i64 b0, .int .i64 b1, .int .i64 b2, .int .i64 b3, .int .i64 b4, .int .i64 b5, .int .i64 b6, .int .i64 b7, .int .i64 (hd : Int), .int .i64 (nn : Int)] 38)).alloc (.cells #[.bool false] 4)).alloc (.cells #[.int .i64 b0, .int .i64 b1, .int .i64 b2, .int .i64 b3, .int .i64 b4, .int .i64 b5, .int .i64 b6, .int .i64 b7] 36)).alloc (.cells #[.int .i64 b0, .int .i64 b1, .int .i64 b2, .int .i64 b3, .int .i64 b4, .int .i64 b5, .int .i64 b6, .int .i64 b7, .int .i64 (hd : Int), .int .i64 (nn : Int)] 38)).heap.size = w.heap.size + 4 := by simp [World.size_alloc]
  generalize hW3 : ((((w.alloc (.cells #[.int .i64 b0, .int .i64 b1, .int .i64 b2, .int .i64 b3, .int .i64 b4, .int .i64 b5, .int .i64 b6, .int .i64 b7, .int .i64 (hd : Int), .int .i64 (nn : Int)] 38)).alloc (.cells #[.bool false] 4)).alloc (.cells #[.int .i64 b0, .int .i64 b1, .int .i64 b2, .int .i64 b3, .int .i64 b4, .int .i64 b5, .int .i64 b6, .int .i64 b7] 36)).alloc (.cells #[.int .i64 b0, .int .i64 b1, .int .i64 b2, .int .i64 b3, .int .i64 b4, .int .i64 b5, .int .i64 b6, .int .i64 b7, .int .i64 (hd : Int), .int .i64 (nn : Int)] 38)) = W3 at *
  clear hW3
  apply wpIn_rangeFunc_ownF rfl h1 (gf := 126) (lb := #[.pointer (some ⟨(w.heap.size + 1 + 1 + 1), 0, none⟩)]) rfl trivial (enters_of Try.func126 (by kernel_rfl) rfl)
    (elements_stops Fence.wide (3 - 1) trivial rfl (by omega) (w.heap.size + 1 + 1 + 1) hd nn [b0, b1, b2, b3, b4, b5, b6, b7] rfl hhd hnn W3 (by omega) hA3) (keepsAt_t (w.heap.size + 1 + 1 + 1)) (keepsAt_b (by omega)) (Below.refl _ _) (fun _ => rfl)
    (fun pre W => ((∀ p ∈ pre, 1 ≤ p.1.2) ∧ W.heap[(w.heap.size + 1)]? = some (.cells #[.bool false] 4 (0, 0)) ∧ W.heap[(w.heap.size + 1 + 1)]? = some (.cells (bufCells (Ri.rest [b0, b1, b2, b3, b4, b5, b6, b7] pre)) 36 (0, 0))) ∧ Ext w W)
    (fun c pre W => (c = .ret ∧ (∃ p ∈ pre, p.1.2 < 1) ∧ W.heap[(w.heap.size + 1)]? = some (.cells #[.bool false] 4 (0, 0))) ∧ Ext w W)
    (OwnFrom.and (Own.from (fun s A B row hs hg hr => ⟨hs.1, blk_own (w.heap.size + 1) (fun (_ : Unit) => .cells #[.bool false] 4 (0, 0)) (fun _ => rfl) () A B row hs.2.1 hg hr, blk_own (w.heap.size + 1 + 1) (fun (_ : Unit) => .cells (bufCells (Ri.rest [b0, b1, b2, b3, b4, b5, b6, b7] s)) 36 (0, 0)) (fun _ => rfl) () A B row hs.2.2 hg hr⟩) _) (ownFrom_below (Nat.le_refl _) (by omega)))
    (fun c => OwnFrom.and (Own.from (fun s A B row hs hg hr => ⟨hs.1, hs.2.1, blk_own (w.heap.size + 1) (fun (_ : Unit) => .cells #[.bool false] 4 (0, 0)) (fun _ => rfl) () A B row hs.2.2 hg hr⟩) _) (ownFrom_below (Nat.le_refl _) (by omega)))
    ⟨⟨by simp, hA1, hA2⟩, hX0⟩ _ ?assign ?body ?done ?stop
  case assign =>
    intro l x W K hK
    gi_wp2
    exact hK
  case body =>
    rintro l pre ⟨⟨x1, x2⟩, hx0, hx8⟩ W ⟨⟨hp, hc1, hc2⟩, hB⟩ hlt
    simp only at hx0 hx8
    obtain ⟨a, rfl⟩ : ∃ a : Nat, x1 = a := ⟨x1.toNat, by omega⟩
    have hlen : (Ri.rest [b0, b1, b2, b3, b4, b5, b6, b7] pre).length = 8 := by rw [Ri.rest_len]; rfl
    have ha8 : a < 8 := by omega
    by_cases hx : x2 < 1
    · have z1 := blk_cell hc1 0 (.bool false) rfl
      have y1 := frozen_of_row _ _ 0 _ _ hc1
      gi_wp2
      exact ⟨KeepsOthers.setCell _ _ _, ⟨rfl, ⟨_, List.mem_append.2 (.inr (List.mem_singleton.2 rfl)), hx⟩, blk_set hc1 0 (.bool false)⟩, hB.setCell (p := ⟨(w.heap.size + 1), 0, none⟩) (by simp only; omega) _⟩
    · have z2 := blk_cell hc2 a _ (bufCells_at (by omega))
      have y2 := frozen_of_row _ _ a _ _ hc2
      have hx' : 1 ≤ x2 := by omega
      clear hx
      gi_wp2
      refine ⟨KeepsOthers.setCell _ _ _, keepsAt_set _ (by omega) _ _, ⟨?_, ?_, ?_⟩, hB.setCell (p := ⟨(w.heap.size + 1 + 1), a, none⟩) (by simp only; omega) _⟩
      · intro p hpm
        rcases List.mem_append.1 hpm with h | h
        · exact hp p h
        · rw [List.mem_singleton.1 h]; exact hx'
      · exact blk_set_other hc1 _ (by simp only; omega) _
      · have := blk_set hc2 a (.int .i64 0)
        rw [bufCells_set] at this
        rw [Ri.rest_snoc]
        exact this
  case done =>
    rintro D ys W hD rfl ⟨⟨hp, hc1, hc2⟩, hB⟩ hK
    rw [Ri.rest_upto] at hc2
    have hpos := (Ri.pos_upto hd [b0, b1, b2, b3, b4, b5, b6, b7] nn).1 hp
    have z1 := blk_cell hc1 0 (.bool false) rfl
    have y1 := frozen_of_row _ _ 0 _ _ hc1
    obtain ⟨c0, c1, c2, c3, c4, c5, c6, c7, hcs⟩ := list8 (l := Ri.zeroed hd [b0, b1, b2, b3, b4, b5, b6, b7] nn) (by rw [Ri.zeroed_len]; rfl)
    have hmm := HMI.out
    rw [hcs] at hc2 hmm
    have k0 := blk_cell hc2 0 (.int .i64 c0) rfl
    have k1 := blk_cell hc2 1 (.int .i64 c1) rfl
    have k2 := blk_cell hc2 2 (.int .i64 c2) rfl
    have k3 := blk_cell hc2 3 (.int .i64 c3) rfl
    have k4 := blk_cell hc2 4 (.int .i64 c4) rfl
    have k5 := blk_cell hc2 5 (.int .i64 c5) rfl
    have k6 := blk_cell hc2 6 (.int .i64 c6) rfl
    have k7 := blk_cell hc2 7 (.int .i64 c7) rfl
    have HB := Lib.hid hB
    have HC1 := Lib.hid hc1
    have HK := Lib.hid hK
    clear hB hc1 hK hc2
    cases m with
    | true =>
      obtain ⟨_, hz⟩ := hmm.1 rfl
      simp only [List.cons.injEq, and_true] at hz
      obtain ⟨rfl, rfl, rfl, rfl, rfl, rfl, rfl, rfl⟩ := hz
      have heq := run_eq8 [0, 0, 0, 0, 0, 0, 0, 0] [0, 0, 0, 0, 0, 0, 0, 0] rfl rfl true (decide_eq_true rfl)
      simp only [bufCells, List.map_cons, List.map_nil] at heq
      clear hmm
      gi_wp2
      have HK1 := (KeepsOthers.setCell W ⟨(w.heap.size + 1), 0, none⟩ (.bool true)).same D _ HK.out rfl
      have hc5 := cell_kept (blk_cell (blk_set HC1.out 0 (.bool true)) 0 (.bool true) rfl) (grownBy_putObj' _ D (.deferred none)) (fun r e => by cases e; exact ⟨_, HK1, rfl⟩)
      refine ⟨by simp, .inl ⟨_, _, rfl, run_takeDeferred HK1, ?_⟩⟩
      refine ⟨.bool true, ?_, rfl, Below.trans (show Below w.heap.size w _ from HB.out.setCell (p := ⟨(w.heap.size + 1), 0, none⟩) (by simp only; omega) _) (belowK_b (w := w) (Nat.le_refl _) _ D _ _ (by omega) HK1 rfl rfl)⟩
      simp [results, Try.f67, go_sem, hc5]
    | false =>
      have hz : ¬ ([c0, c1, c2, c3, c4, c5, c6, c7] = [0, 0, 0, 0, 0, 0, 0, 0]) := fun h => by cases hmm.2 ⟨hpos, h⟩
      have heq := run_eq8 [c0, c1, c2, c3, c4, c5, c6, c7] [0, 0, 0, 0, 0, 0, 0, 0] rfl rfl false (decide_eq_false hz)
      simp only [bufCells, List.map_cons, List.map_nil] at heq
      clear hmm
      gi_wp2
      have HK1 := (KeepsOthers.setCell W ⟨(w.heap.size + 1), 0, none⟩ (.bool false)).same D _ HK.out rfl
      have hc5 := cell_kept (blk_cell (blk_set HC1.out 0 (.bool false)) 0 (.bool false) rfl) (grownBy_putObj' _ D (.deferred none)) (fun r e => by cases e; exact ⟨_, HK1, rfl⟩)
      refine ⟨by simp, .inl ⟨_, _, rfl, run_takeDeferred HK1, ?_⟩⟩
      refine ⟨.bool false, ?_, rfl, Below.trans (show Below w.heap.size w _ from HB.out.setCell (p := ⟨(w.heap.size + 1), 0, none⟩) (by simp only; omega) _) (belowK_b (w := w) (Nat.le_refl _) _ D _ _ (by omega) HK1 rfl rfl)⟩
      simp [results, Try.f67, go_sem, hc5]
  case stop =>
    rintro D c pre W hD ⟨k, hk, rfl⟩ ⟨⟨rfl, ⟨p, hpm, hp⟩, hc1⟩, hB⟩ hK
    have hm : m = false := by
      cases hmm : m with
      | false => rfl
      | true =>
        have h2 := (HMI.out.1 hmm).1
        have h3 := (Ri.pos_upto hd [b0, b1, b2, b3, b4, b5, b6, b7] k).2 (fun i hi => h2 i (by omega)) p hpm
        omega
    subst hm
    gi_wp2
    refine ⟨by simp, .inl ⟨_, _, rfl, run_takeDeferred hK, ?_⟩⟩
    have hc5 := cell_kept (blk_cell hc1 0 (.bool false) rfl) (grownBy_putObj' _ D (.deferred none)) (fun r e => by cases e; exact ⟨_, hK, rfl⟩)
    refine ⟨.bool false, ?_, rfl, Below.trans (show Below w.heap.size w W from hB) (belowK_b (w := w) (Nat.le_refl _) W D _ _ (by omega) hK rfl rfl)⟩
    simp [results, Try.f67, go_sem, hc5]

end Go.Proofs.Ytogcfndhcphpaaa
/-
  The contracts of ring.Push and ring.Pop.
-/
set_option linter.unusedVariables false
set_option linter.unusedSimpArgs false
namespace Go.Proofs.Ytogcfndhcphpaaa
open Go.RowKit

theorem rmay_eq (b0 b1 b2 b3 b4 b5 b6 b7 hd nn : Int) (m : Bool) (hm : Ri.may ⟨[b0, b1, b2, b3, b4, b5, b6, b7], hd, nn⟩ = m) (w : World) :
    Calls Try.prog 67 #[.agg #[.int .i64 b0, .int .i64 b1, .int .i64 b2, .int .i64 b3, .int .i64 b4, .int .i64 b5, .int .i64 b6, .int .i64 b7, .int .i64 hd, .int .i64 nn]] w fun e w' => e = .returned (.bool m) ∧ Ext w w' := by
  cases hi : Ri.inside ⟨[b0, b1, b2, b3, b4, b5, b6, b7], hd, nn⟩ with
  | true =>
    obtain ⟨h, n, rfl, rfl, h1, h2⟩ := Ri.inside_nat hi
    exact rmay_in b0 b1 b2 b3 b4 b5 b6 b7 h n h1 h2 m hm w
  | false =>
    have h0 : m = false := by rw [← hm]; unfold Ri.may; rw [hi]; rfl
    subst h0
    refine rmay_out b0 b1 b2 b3 b4 b5 b6 b7 hd nn w ?_
    have : ¬ ((0 ≤ hd ∧ hd < 8) ∧ 0 ≤ nn ∧ nn ≤ 8) := fun h => by rw [(Ri.inside_iff ⟨[b0, b1, b2, b3, b4, b5, b6, b7], hd, nn⟩).2 h] at hi; cases hi
    omega
def Ri.zero : Ri := ⟨[0, 0, 0, 0, 0, 0, 0, 0], 0, 0⟩
def Ri.push (r : Ri) (g : Int) : Ri × Bool := if r.may && decide (r.n ≠ 8) && decide (1 ≤ g) then (⟨r.buf.set ((r.head.toNat + r.n.toNat) % 8) g, r.head, r.n + 1⟩, true) else (Ri.zero, false)
def Ri.pop (r : Ri) : Ri × Int × Bool := if r.may then (if r.n = 0 then (r, 0, false) else (⟨r.buf.set r.head.toNat 0, (r.head + 1) % 8, r.n - 1⟩, r.buf[r.head.toNat]?.getD 0, true)) else (Ri.zero, 0, false)
theorem set10_at {v : World} {x : Nat} {c0 c1 c2 c3 c4 c5 c6 c7 c8 c9 : Value} {t : TypeId} (h : v.heap[x]? = some (.cells #[c0, c1, c2, c3, c4, c5, c6, c7, c8, c9] t (0, 0))) (d0 d1 d2 d3 d4 d5 d6 d7 d8 d9 : Value) :
    ((((((((((v.setCell ⟨x, 0, none⟩ d0).setCell ⟨x, 1, none⟩ d1).setCell ⟨x, 2, none⟩ d2).setCell ⟨x, 3, none⟩ d3).setCell ⟨x, 4, none⟩ d4).setCell ⟨x, 5, none⟩ d5).setCell ⟨x, 6, none⟩ d6).setCell ⟨x, 7, none⟩ d7).setCell ⟨x, 8, none⟩ d8).setCell ⟨x, 9, none⟩ d9).heap[x]? = some (.cells #[d0, d1, d2, d3, d4, d5, d6, d7, d8, d9] t (0, 0)) := by
  have h' := blk_set (blk_set (blk_set (blk_set (blk_set (blk_set (blk_set (blk_set (blk_set (blk_set h 0 d0) 1 d1) 2 d2) 3 d3) 4 d4) 5 d5) 6 d6) 7 d7) 8 d8) 9 d9
  simp only [List.setIfInBounds_toArray, List.set_cons_zero, List.set_cons_succ] at h'
  exact h'
theorem set10_ext {W v : World} {x : Nat} (h : Ext W v) (hx : W.heap.size ≤ x) (d0 d1 d2 d3 d4 d5 d6 d7 d8 d9 : Value) :
    Ext W ((((((((((v.setCell ⟨x, 0, none⟩ d0).setCell ⟨x, 1, none⟩ d1).setCell ⟨x, 2, none⟩ d2).setCell ⟨x, 3, none⟩ d3).setCell ⟨x, 4, none⟩ d4).setCell ⟨x, 5, none⟩ d5).setCell ⟨x, 6, none⟩ d6).setCell ⟨x, 7, none⟩ d7).setCell ⟨x, 8, none⟩ d8).setCell ⟨x, 9, none⟩ d9) :=
  (((((((((h.setCell hx _).setCell hx _).setCell hx _).setCell hx _).setCell hx _).setCell hx _).setCell hx _).setCell hx _).setCell hx _).setCell hx _
/-- The ten cells of a block. -/
theorem cells10 {v : World} {x : Nat} {c0 c1 c2 c3 c4 c5 c6 c7 c8 c9 : Value} {t : TypeId} (h : v.heap[x]? = some (.cells #[c0, c1, c2, c3, c4, c5, c6, c7, c8, c9] t (0, 0))) :
    (v.cell? ⟨x, 0, none⟩ = some c0 ∧ v.cell? ⟨x, 1, none⟩ = some c1 ∧ v.cell? ⟨x, 2, none⟩ = some c2 ∧ v.cell? ⟨x, 3, none⟩ = some c3 ∧ v.cell? ⟨x, 4, none⟩ = some c4) ∧ v.cell? ⟨x, 5, none⟩ = some c5 ∧ v.cell? ⟨x, 6, none⟩ = some c6 ∧ v.cell? ⟨x, 7, none⟩ = some c7 ∧ v.cell? ⟨x, 8, none⟩ = some c8 ∧ v.cell? ⟨x, 9, none⟩ = some c9 :=
  ⟨⟨blk_cell h 0 _ rfl, blk_cell h 1 _ rfl, blk_cell h 2 _ rfl, blk_cell h 3 _ rfl, blk_cell h 4 _ rfl⟩, blk_cell h 5 _ rfl, blk_cell h 6 _ rfl, blk_cell h 7 _ rfl, blk_cell h 8 _ rfl, blk_cell h 9 _ rfl⟩
theorem frozen10 {v : World} {x : Nat} {cs : Array Value} {t : TypeId} (h : v.heap[x]? = some (.cells cs t (0, 0))) :
    (v.frozen? ⟨x, 0, none⟩ = false ∧ v.frozen? ⟨x, 1, none⟩ = false ∧ v.frozen? ⟨x, 2, none⟩ = false ∧ v.frozen? ⟨x, 3, none⟩ = false ∧ v.frozen? ⟨x, 4, none⟩ = false) ∧ v.frozen? ⟨x, 5, none⟩ = false ∧ v.frozen? ⟨x, 6, none⟩ = false ∧ v.frozen? ⟨x, 7, none⟩ = false ∧ v.frozen? ⟨x, 8, none⟩ = false ∧ v.frozen? ⟨x, 9, none⟩ = false := by
  have k := fun i => frozen_of_row v x i _ _ h
  exact ⟨⟨k 0, k 1, k 2, k 3, k 4⟩, k 5, k 6, k 7, k 8, k 9⟩
set_option maxRecDepth 100000 in
set_option maxHeartbeats 1000000 in
theorem rpush_no (b0 b1 b2 b3 b4 b5 b6 b7 hd nn g : Int) (m : Bool) (hm : Ri.may ⟨[b0, b1, b2, b3, b4, b5, b6, b7], hd, nn⟩ = m) (h : m = false ∨ (m = true ∧ (nn = 8 ∨ (nn ≠ 8 ∧ g < 1)))) (w : World) :
    Calls Try.prog 68 #[.agg #[.int .i64 b0, .int .i64 b1, .int .i64 b2, .int .i64 b3, .int .i64 b4, .int .i64 b5, .int .i64 b6, .int .i64 b7, .int .i64 hd, .int .i64 nn], .int .i64 g] w fun e w' => e = .returned (.tuple #[.agg #[.int .i64 0, .int .i64 0, .int .i64 0, .int .i64 0, .int .i64 0, .int .i64 0, .int .i64 0, .int .i64 0, .int .i64 0, .int .i64 0], .bool false]) ∧ Ext w w' := by
  have HM := Lib.hid hm
  clear hm
  rcases h with rfl | ⟨rfl, h⟩
  · go_enter Try.func68, Try.ntmps68
    go_wp2_with fail
    refine (rmay_eq b0 b1 b2 b3 b4 b5 b6 b7 hd nn _ HM.out _).mono ?_
    rintro r w1 ⟨rfl, hx1⟩
    have HX := Lib.hid ((((Ext.refl w).alloc (.cells #[.int .i64 b0, .int .i64 b1, .int .i64 b2, .int .i64 b3, .int .i64 b4, .int .i64 b5, .int .i64 b6, .int .i64 b7, .int .i64 hd, .int .i64 nn] 38)).alloc (.cells #[.int .i64 0, .int .i64 0, .int .i64 0, .int .i64 0, .int .i64 0, .int .i64 0, .int .i64 0, .int .i64 0, .int .i64 0, .int .i64 0] 38)).trans hx1)
    have HZB : Hid (w1.heap[w.heap.size + 1]? = some (.cells #[.int .i64 0, .int .i64 0, .int .i64 0, .int .i64 0, .int .i64 0, .int .i64 0, .int .i64 0, .int .i64 0, .int .i64 0, .int .i64 0] 38 (0, 0))) := Lib.hid (hx1.blk (by have := blk_new (w.alloc (.cells #[.int .i64 b0, .int .i64 b1, .int .i64 b2, .int .i64 b3, .int .i64 b4, .int .i64 b5, .int .i64 b6, .int .i64 b7, .int .i64 hd, .int .i64 nn] 38)) (.cells #[.int .i64 0, .int .i64 0, .int .i64 0, .int .i64 0, .int .i64 0, .int .i64 0, .int .i64 0, .int .i64 0, .int .i64 0, .int .i64 0] 38); rwa [World.size_alloc] at this))
    have p9 := blk_cell (hx1.blk (blk_alloc (blk_new w (.cells #[.int .i64 b0, .int .i64 b1, .int .i64 b2, .int .i64 b3, .int .i64 b4, .int .i64 b5, .int .i64 b6, .int .i64 b7, .int .i64 hd, .int .i64 nn] 38)) (.cells #[.int .i64 0, .int .i64 0, .int .i64 0, .int .i64 0, .int .i64 0, .int .i64 0, .int .i64 0, .int .i64 0, .int .i64 0, .int .i64 0] 38))) 9 (.int .i64 nn) rfl
    clear hx1
    obtain ⟨⟨z0, z1, z2, z3, z4⟩, z5, z6, z7, z8, z9⟩ := cells10 HZB.out
    obtain ⟨⟨y0, y1, y2, y3, y4⟩, y5, y6, y7, y8, y9⟩ := frozen10 HZB.out
    go_wp2
    have hzz := set10_at HZB.out (.int .i64 0) (.int .i64 0) (.int .i64 0) (.int .i64 0) (.int .i64 0) (.int .i64 0) (.int .i64 0) (.int .i64 0) (.int .i64 0) (.int .i64 0)
    clear z0 z1 z2 z3 z4 z5 z6 z7 z8 z9 y0 y1 y2 y3 y4 y5 y6 y7 y8 y9
    obtain ⟨⟨t0, t1, t2, t3, t4⟩, t5, t6, t7, t8, t9⟩ := cells10 hzz
    refine bodyPost_ret (v := .tuple #[.agg #[.int .i64 0, .int .i64 0, .int .i64 0, .int .i64 0, .int .i64 0, .int .i64 0, .int .i64 0, .int .i64 0, .int .i64 0, .int .i64 0], .bool false]) (by simp [results, Try.results68, go_sem, t0, t1, t2, t3, t4, t5, t6, t7, t8, t9]) rfl ⟨rfl, ?_⟩
    exact set10_ext HX.out (by omega) _ _ _ _ _ _ _ _ _ _
  · rcases h with h | ⟨h, h2⟩
    · have e0 : (nn == 8) = true := by simpa using h
      clear h
      go_enter Try.func68, Try.ntmps68
      go_wp2_with fail
      refine (rmay_eq b0 b1 b2 b3 b4 b5 b6 b7 hd nn _ HM.out _).mono ?_
      rintro r w1 ⟨rfl, hx1⟩
      have HX := Lib.hid ((((Ext.refl w).alloc (.cells #[.int .i64 b0, .int .i64 b1, .int .i64 b2, .int .i64 b3, .int .i64 b4, .int .i64 b5, .int .i64 b6, .int .i64 b7, .int .i64 hd, .int .i64 nn] 38)).alloc (.cells #[.int .i64 0, .int .i64 0, .int .i64 0, .int .i64 0, .int .i64 0, .int .i64 0, .int .i64 0, .int .i64 0, .int .i64 0, .int .i64 0] 38)).trans hx1)
      have HZB : Hid (w1.heap[w.heap.size + 1]? = some (.cells #[.int .i64 0, .int .i64 0, .int .i64 0, .int .i64 0, .int .i64 0, .int .i64 0, .int .i64 0, .int .i64 0, .int .i64 0, .int .i64 0] 38 (0, 0))) := Lib.hid (hx1.blk (by have := blk_new (w.alloc (.cells #[.int .i64 b0, .int .i64 b1, .int .i64 b2, .int .i64 b3, .int .i64 b4, .int .i64 b5, .int .i64 b6, .int .i64 b7, .int .i64 hd, .int .i64 nn] 38)) (.cells #[.int .i64 0, .int .i64 0, .int .i64 0, .int .i64 0, .int .i64 0, .int .i64 0, .int .i64 0, .int .i64 0, .int .i64 0, .int .i64 0] 38); rwa [World.size_alloc] at this))
      have p9 := blk_cell (hx1.blk (blk_alloc (blk_new w (.cells #[.int .i64 b0, .int .i64 b1, .int .i64 b2, .int .i64 b3, .int .i64 b4, .int .i64 b5, .int .i64 b6, .int .i64 b7, .int .i64 hd, .int .i64 nn] 38)) (.cells #[.int .i64 0, .int .i64 0, .int .i64 0, .int .i64 0, .int .i64 0, .int .i64 0, .int .i64 0, .int .i64 0, .int .i64 0, .int .i64 0] 38))) 9 (.int .i64 nn) rfl
      clear hx1
      obtain ⟨⟨z0, z1, z2, z3, z4⟩, z5, z6, z7, z8, z9⟩ := cells10 HZB.out
      obtain ⟨⟨y0, y1, y2, y3, y4⟩, y5, y6, y7, y8, y9⟩ := frozen10 HZB.out
      go_wp2
      have hzz := set10_at HZB.out (.int .i64 0) (.int .i64 0) (.int .i64 0) (.int .i64 0) (.int .i64 0) (.int .i64 0) (.int .i64 0) (.int .i64 0) (.int .i64 0) (.int .i64 0)
      clear z0 z1 z2 z3 z4 z5 z6 z7 z8 z9 y0 y1 y2 y3 y4 y5 y6 y7 y8 y9
      obtain ⟨⟨t0, t1, t2, t3, t4⟩, t5, t6, t7, t8, t9⟩ := cells10 hzz
      refine bodyPost_ret (v := .tuple #[.agg #[.int .i64 0, .int .i64 0, .int .i64 0, .int .i64 0, .int .i64 0, .int .i64 0, .int .i64 0, .int .i64 0, .int .i64 0, .int .i64 0], .bool false]) (by simp [results, Try.results68, go_sem, t0, t1, t2, t3, t4, t5, t6, t7, t8, t9]) rfl ⟨rfl, ?_⟩
      exact set10_ext HX.out (by omega) _ _ _ _ _ _ _ _ _ _
    · have e0 : (nn == 8) = false := by simpa using h
      clear h
      go_enter Try.func68, Try.ntmps68
      go_wp2_with fail
      refine (rmay_eq b0 b1 b2 b3 b4 b5 b6 b7 hd nn _ HM.out _).mono ?_
      rintro r w1 ⟨rfl, hx1⟩
      have HX := Lib.hid ((((Ext.refl w).alloc (.cells #[.int .i64 b0, .int .i64 b1, .int .i64 b2, .int .i64 b3, .int .i64 b4, .int .i64 b5, .int .i64 b6, .int .i64 b7, .int .i64 hd, .int .i64 nn] 38)).alloc (.cells #[.int .i64 0, .int .i64 0, .int .i64 0, .int .i64 0, .int .i64 0, .int .i64 0, .int .i64 0, .int .i64 0, .int .i64 0, .int .i64 0] 38)).trans hx1)
      have HZB : Hid (w1.heap[w.heap.size + 1]? = some (.cells #[.int .i64 0, .int .i64 0, .int .i64 0, .int .i64 0, .int .i64 0, .int .i64 0, .int .i64 0, .int .i64 0, .int .i64 0, .int .i64 0] 38 (0, 0))) := Lib.hid (hx1.blk (by have := blk_new (w.alloc (.cells #[.int .i64 b0, .int .i64 b1, .int .i64 b2, .int .i64 b3, .int .i64 b4, .int .i64 b5, .int .i64 b6, .int .i64 b7, .int .i64 hd, .int .i64 nn] 38)) (.cells #[.int .i64 0, .int .i64 0, .int .i64 0, .int .i64 0, .int .i64 0, .int .i64 0, .int .i64 0, .int .i64 0, .int .i64 0, .int .i64 0] 38); rwa [World.size_alloc] at this))
      have p9 := blk_cell (hx1.blk (blk_alloc (blk_new w (.cells #[.int .i64 b0, .int .i64 b1, .int .i64 b2, .int .i64 b3, .int .i64 b4, .int .i64 b5, .int .i64 b6, .int .i64 b7, .int .i64 hd, .int .i64 nn] 38)) (.cells #[.int .i64 0, .int .i64 0, .int .i64 0, .int .i64 0, .int .i64 0, .int .i64 0, .int .i64 0, .int .i64 0, .int .i64 0, .int .i64 0] 38))) 9 (.int .i64 nn) rfl
      clear hx1
      obtain ⟨⟨z0, z1, z2, z3, z4⟩, z5, z6, z7, z8, z9⟩ := cells10 HZB.out
      obtain ⟨⟨y0, y1, y2, y3, y4⟩, y5, y6, y7, y8, y9⟩ := frozen10 HZB.out
      go_wp2
      have hzz := set10_at HZB.out (.int .i64 0) (.int .i64 0) (.int .i64 0) (.int .i64 0) (.int .i64 0) (.int .i64 0) (.int .i64 0) (.int .i64 0) (.int .i64 0) (.int .i64 0)
      clear z0 z1 z2 z3 z4 z5 z6 z7 z8 z9 y0 y1 y2 y3 y4 y5 y6 y7 y8 y9
      obtain ⟨⟨t0, t1, t2, t3, t4⟩, t5, t6, t7, t8, t9⟩ := cells10 hzz
      refine bodyPost_ret (v := .tuple #[.agg #[.int .i64 0, .int .i64 0, .int .i64 0, .int .i64 0, .int .i64 0, .int .i64 0, .int .i64 0, .int .i64 0, .int .i64 0, .int .i64 0], .bool false]) (by simp [results, Try.results68, go_sem, t0, t1, t2, t3, t4, t5, t6, t7, t8, t9]) rfl ⟨rfl, ?_⟩
      exact set10_ext HX.out (by omega) _ _ _ _ _ _ _ _ _ _
set_option maxRecDepth 100000 in
set_option maxHeartbeats 1000000 in
theorem rpush_ok (b0 b1 b2 b3 b4 b5 b6 b7 g : Int) (hd nn : Nat) (hhd : hd < 8) (hnn : nn < 8) (hm : Ri.may ⟨[b0, b1, b2, b3, b4, b5, b6, b7], hd, nn⟩ = true) (hg : 1 ≤ g) (c0 c1 c2 c3 c4 c5 c6 c7 : Int) (hc : ([b0, b1, b2, b3, b4, b5, b6, b7]).set ((hd + nn) % 8) g = [c0, c1, c2, c3, c4, c5, c6, c7]) (w : World) :
    Calls Try.prog 68 #[.agg #[.int .i64 b0, .int .i64 b1, .int .i64 b2, .int .i64 b3, .int .i64 b4, .int .i64 b5, .int .i64 b6, .int .i64 b7, .int .i64 (hd : Int), .int .i64 (nn : Int)], .int .i64 g] w fun e w' => e = .returned (.tuple #[.agg #[.int .i64 c0, .int .i64 c1, .int .i64 c2, .int .i64 c3, .int .i64 c4, .int .i64 c5, .int .i64 c6, .int .i64 c7, .int .i64 (hd : Int), .int .i64 ((nn : Int) + 1)], .bool true]) ∧ Ext w w' := by
  have HM := Lib.hid hm
  clear hm
  have e0 : ((nn : Int) == 8) = false := beq_eq_false_iff_ne.2 (by omega)
  go_enter Try.func68, Try.ntmps68
  go_wp2_with fail
  refine (rmay_eq b0 b1 b2 b3 b4 b5 b6 b7 hd nn _ HM.out _).mono ?_
  rintro r w1 ⟨rfl, hx1⟩
  have HX := Lib.hid ((((Ext.refl w).alloc (.cells #[.int .i64 b0, .int .i64 b1, .int .i64 b2, .int .i64 b3, .int .i64 b4, .int .i64 b5, .int .i64 b6, .int .i64 b7, .int .i64 (hd : Int), .int .i64 (nn : Int)] 38)).alloc (.cells #[.int .i64 0, .int .i64 0, .int .i64 0, .int .i64 0, .int .i64 0, .int .i64 0, .int .i64 0, .int .i64 0, .int .i64 0, .int .i64 0] 38)).trans hx1)
  have hb : w1.heap[w.heap.size]? = some (.cells (⟨[b0, b1, b2, b3, b4, b5, b6, b7], hd, nn⟩ : Ri).cells 38 (0, 0)) := hx1.blk (blk_alloc (blk_new w (.cells #[.int .i64 b0, .int .i64 b1, .int .i64 b2, .int .i64 b3, .int .i64 b4, .int .i64 b5, .int .i64 b6, .int .i64 b7, .int .i64 (hd : Int), .int .i64 (nn : Int)] 38)) (.cells #[.int .i64 0, .int .i64 0, .int .i64 0, .int .i64 0, .int .i64 0, .int .i64 0, .int .i64 0, .int .i64 0, .int .i64 0, .int .i64 0] 38))
  have HZ1 : Hid (w1.heap[w.heap.size + 1]? = some (.cells #[.int .i64 0, .int .i64 0, .int .i64 0, .int .i64 0, .int .i64 0, .int .i64 0, .int .i64 0, .int .i64 0, .int .i64 0, .int .i64 0] 38 (0, 0))) := Lib.hid (hx1.blk (by have := blk_new (w.alloc (.cells #[.int .i64 b0, .int .i64 b1, .int .i64 b2, .int .i64 b3, .int .i64 b4, .int .i64 b5, .int .i64 b6, .int .i64 b7, .int .i64 (hd : Int), .int .i64 (nn : Int)] 38)) (.cells #[.int .i64 0, .int .i64 0, .int .i64 0, .int .i64 0, .int .i64 0, .int .i64 0, .int .i64 0, .int .i64 0, .int .i64 0, .int .i64 0] 38); rwa [World.size_alloc] at this))
  have p8 := blk_cell hb 8 (.int .i64 (hd : Int)) rfl
  have p9 := blk_cell hb 9 (.int .i64 (nn : Int)) rfl
  have pj := blk_cell hb ((hd + nn) % 8) _ (Ri.cells_buf rfl _ (by omega))
  have yj := frozen_of_row _ _ ((hd + nn) % 8) _ _ hb
  have e1 : IntKind.i64.wrap ((hd : Int) + (nn : Int)) = ((hd + nn : Nat) : Int) := IntWalk.i64_in _ (by omega)
  have e2 : ((hd + nn : Nat) : Int).tmod 8 = (((hd + nn) % 8 : Nat) : Int) := by rw [Int.tmod_eq_emod_of_nonneg (by omega)]; omega
  have e3 : (0 : Int) ≤ (((hd + nn) % 8 : Nat) : Int) := by omega
  have e4 : (((hd + nn) % 8 : Nat) : Int) < 8 := by omega
  have e5 : IntKind.i64.wrap ((nn : Int) + 1) = (nn : Int) + 1 := IntWalk.i64_in _ (by omega)
  have HB2 : Hid ((w1.setCell ⟨w.heap.size, (hd + nn) % 8, none⟩ (.int .i64 g)).heap[w.heap.size]? = some (.cells #[.int .i64 c0, .int .i64 c1, .int .i64 c2, .int .i64 c3, .int .i64 c4, .int .i64 c5, .int .i64 c6, .int .i64 c7, .int .i64 (hd : Int), .int .i64 (nn : Int)] 38 (0, 0))) := Lib.hid (by
    have := blk_set hb ((hd + nn) % 8) (.int .i64 g)
    rw [Ri.cells_set rfl _ (by omega)] at this
    simp only [hc] at this
    exact this)
  have HZ2 : Hid ((w1.setCell ⟨w.heap.size, (hd + nn) % 8, none⟩ (.int .i64 g)).heap[w.heap.size + 1]? = some (.cells #[.int .i64 0, .int .i64 0, .int .i64 0, .int .i64 0, .int .i64 0, .int .i64 0, .int .i64 0, .int .i64 0, .int .i64 0, .int .i64 0] 38 (0, 0))) := Lib.hid (blk_set_other HZ1.out _ (by simp) _)
  have HX2 : Hid (Ext w (w1.setCell ⟨w.heap.size, (hd + nn) % 8, none⟩ (.int .i64 g))) := Lib.hid (HX.out.setCell (Nat.le_refl _) _)
  clear hx1 hb
  go_upto_region 4 with fail
  generalize hw2 : w1.setCell ⟨w.heap.size, (hd + nn) % 8, none⟩ (.int .i64 g) = w2 at *
  clear hw2 p8 p9 pj yj e1 e2 e3 e4 HX HZ1
  have q9 := blk_cell HB2.out 9 (.int .i64 (nn : Int)) rfl
  have x9 := frozen_of_row _ _ 9 _ _ HB2.out
  have HB3 : Hid ((w2.setCell ⟨w.heap.size, 9, none⟩ (.int .i64 ((nn : Int) + 1))).heap[w.heap.size]? = some (.cells #[.int .i64 c0, .int .i64 c1, .int .i64 c2, .int .i64 c3, .int .i64 c4, .int .i64 c5, .int .i64 c6, .int .i64 c7, .int .i64 (hd : Int), .int .i64 ((nn : Int) + 1)] 38 (0, 0))) := Lib.hid (blk_set HB2.out 9 (.int .i64 ((nn : Int) + 1)))
  have HZ3 : Hid ((w2.setCell ⟨w.heap.size, 9, none⟩ (.int .i64 ((nn : Int) + 1))).heap[w.heap.size + 1]? = some (.cells #[.int .i64 0, .int .i64 0, .int .i64 0, .int .i64 0, .int .i64 0, .int .i64 0, .int .i64 0, .int .i64 0, .int .i64 0, .int .i64 0] 38 (0, 0))) := Lib.hid (blk_set_other HZ2.out _ (by simp) _)
  have HX3 : Hid (Ext w (w2.setCell ⟨w.heap.size, 9, none⟩ (.int .i64 ((nn : Int) + 1)))) := Lib.hid (HX2.out.setCell (Nat.le_refl _) _)
  go_upto_region 5 with fail
  generalize hw3 : w2.setCell ⟨w.heap.size, 9, none⟩ (.int .i64 ((nn : Int) + 1)) = w3 at *
  clear hw3 q9 x9 HB2 HZ2 HX2 e5
  obtain ⟨⟨q0, q1, q2, q3, q4⟩, q5, q6, q7, q8, q9⟩ := cells10 HB3.out
  have HZB := HZ3
  obtain ⟨⟨z0, z1, z2, z3, z4⟩, z5, z6, z7, z8, z9⟩ := cells10 HZB.out
  obtain ⟨⟨y0, y1, y2, y3, y4⟩, y5, y6, y7, y8, y9⟩ := frozen10 HZB.out
  go_wp2
  have hzz := set10_at HZB.out (.int .i64 c0) (.int .i64 c1) (.int .i64 c2) (.int .i64 c3) (.int .i64 c4) (.int .i64 c5) (.int .i64 c6) (.int .i64 c7) (.int .i64 (hd : Int)) (.int .i64 ((nn : Int) + 1))
  clear z0 z1 z2 z3 z4 z5 z6 z7 z8 z9 y0 y1 y2 y3 y4 y5 y6 y7 y8 y9
  clear q0 q1 q2 q3 q4 q5 q6 q7 q8 q9
  obtain ⟨⟨t0, t1, t2, t3, t4⟩, t5, t6, t7, t8, t9⟩ := cells10 hzz
  refine bodyPost_ret (v := .tuple #[.agg #[.int .i64 c0, .int .i64 c1, .int .i64 c2, .int .i64 c3, .int .i64 c4, .int .i64 c5, .int .i64 c6, .int .i64 c7, .int .i64 (hd : Int), .int .i64 ((nn : Int) + 1)], .bool true]) (by simp [results, Try.results68, go_sem, t0, t1, t2, t3, t4, t5, t6, t7, t8, t9]) rfl ⟨rfl, ?_⟩
  exact set10_ext HX3.out (by omega) _ _ _ _ _ _ _ _ _ _
/-- What a call of Push answers. -/
theorem rpush_k (b0 b1 b2 b3 b4 b5 b6 b7 hd nn g : Int) (c0 c1 c2 c3 c4 c5 c6 c7 hd' nn' : Int) (ok : Bool) (h : Ri.push ⟨[b0, b1, b2, b3, b4, b5, b6, b7], hd, nn⟩ g = (⟨[c0, c1, c2, c3, c4, c5, c6, c7], hd', nn'⟩, ok)) (w : World) :
    Calls Try.prog 68 #[.agg #[.int .i64 b0, .int .i64 b1, .int .i64 b2, .int .i64 b3, .int .i64 b4, .int .i64 b5, .int .i64 b6, .int .i64 b7, .int .i64 hd, .int .i64 nn], .int .i64 g] w fun e w' => e = .returned (.tuple #[.agg #[.int .i64 c0, .int .i64 c1, .int .i64 c2, .int .i64 c3, .int .i64 c4, .int .i64 c5, .int .i64 c6, .int .i64 c7, .int .i64 hd', .int .i64 nn'], .bool ok]) ∧ Ext w w' := by
  unfold Ri.push at h
  split at h
  · rename_i hc
    simp only [Bool.and_eq_true, decide_eq_true_eq] at hc
    obtain ⟨⟨hm, h8⟩, hg⟩ := hc
    have hi : Ri.inside ⟨[b0, b1, b2, b3, b4, b5, b6, b7], hd, nn⟩ = true := by unfold Ri.may at hm; rw [Bool.and_eq_true] at hm; exact hm.1
    obtain ⟨a, n, rfl, rfl, h1, h2⟩ := Ri.inside_nat hi
    simp only [Prod.mk.injEq, Ri.mk.injEq, Int.toNat_natCast] at h
    obtain ⟨⟨hs, rfl, rfl⟩, rfl⟩ := h
    exact rpush_ok b0 b1 b2 b3 b4 b5 b6 b7 g a n h1 (by omega) hm hg c0 c1 c2 c3 c4 c5 c6 c7 hs w
  · rename_i hc
    simp only [Prod.mk.injEq, Ri.zero, Ri.mk.injEq, List.cons.injEq, and_true] at h
    obtain ⟨⟨⟨rfl, rfl, rfl, rfl, rfl, rfl, rfl, rfl⟩, rfl, rfl⟩, rfl⟩ := h
    refine rpush_no b0 b1 b2 b3 b4 b5 b6 b7 hd nn g _ rfl ?_ w
    cases hm : Ri.may ⟨[b0, b1, b2, b3, b4, b5, b6, b7], hd, nn⟩ with
    | false => exact .inl rfl
    | true =>
      right
      refine ⟨rfl, ?_⟩
      rw [hm] at hc
      simp at hc
      by_cases h8 : nn = 8
      · exact .inl h8
      · exact .inr ⟨h8, by have := hc h8; omega⟩

end Go.Proofs.Ytogcfndhcphpaaa
/-
  The contract of ring.Pop.
-/
set_option linter.unusedVariables false
set_option linter.unusedSimpArgs false
namespace Go.Proofs.Ytogcfndhcphpaaa
open Go.RowKit
set_option maxRecDepth 100000 in
set_option maxHeartbeats 1000000 in
theorem rpop_no (b0 b1 b2 b3 b4 b5 b6 b7 hd nn : Int) (hm : Ri.may ⟨[b0, b1, b2, b3, b4, b5, b6, b7], hd, nn⟩ = false) (w : World) :
    Calls Try.prog 114 #[.agg #[.int .i64 b0, .int .i64 b1, .int .i64 b2, .int .i64 b3, .int .i64 b4, .int .i64 b5, .int .i64 b6, .int .i64 b7, .int .i64 hd, .int .i64 nn]] w fun e w' => e = .returned (.tuple #[.agg #[.int .i64 0, .int .i64 0, .int .i64 0, .int .i64 0, .int .i64 0, .int .i64 0, .int .i64 0, .int .i64 0, .int .i64 0, .int .i64 0], .int .i64 0, .bool false]) ∧ Ext w w' := by
  have HM := Lib.hid hm
  clear hm
  go_enter Try.func114, Try.ntmps114
  go_wp2_with fail
  refine (rmay_eq b0 b1 b2 b3 b4 b5 b6 b7 hd nn _ HM.out _).mono ?_
  rintro r w1 ⟨rfl, hx1⟩
  have HX := Lib.hid ((((Ext.refl w).alloc (.cells #[.int .i64 b0, .int .i64 b1, .int .i64 b2, .int .i64 b3, .int .i64 b4, .int .i64 b5, .int .i64 b6, .int .i64 b7, .int .i64 hd, .int .i64 nn] 38)).alloc (.cells #[.int .i64 0, .int .i64 0, .int .i64 0, .int .i64 0, .int .i64 0, .int .i64 0, .int .i64 0, .int .i64 0, .int .i64 0, .int .i64 0] 38)).trans hx1)
  have HZB : Hid (w1.heap[w.heap.size + 1]? = some (.cells #[.int .i64 0, .int .i64 0, .int .i64 0, .int .i64 0, .int .i64 0, .int .i64 0, .int .i64 0, .int .i64 0, .int .i64 0, .int .i64 0] 38 (0, 0))) := Lib.hid (hx1.blk (by have := blk_new (w.alloc (.cells #[.int .i64 b0, .int .i64 b1, .int .i64 b2, .int .i64 b3, .int .i64 b4, .int .i64 b5, .int .i64 b6, .int .i64 b7, .int .i64 hd, .int .i64 nn] 38)) (.cells #[.int .i64 0, .int .i64 0, .int .i64 0, .int .i64 0, .int .i64 0, .int .i64 0, .int .i64 0, .int .i64 0, .int .i64 0, .int .i64 0] 38); rwa [World.size_alloc] at this))
  clear hx1
  obtain ⟨⟨z0, z1, z2, z3, z4⟩, z5, z6, z7, z8, z9⟩ := cells10 HZB.out
  obtain ⟨⟨y0, y1, y2, y3, y4⟩, y5, y6, y7, y8, y9⟩ := frozen10 HZB.out
  go_wp2
  have hzz := set10_at HZB.out (.int .i64 0) (.int .i64 0) (.int .i64 0) (.int .i64 0) (.int .i64 0) (.int .i64 0) (.int .i64 0) (.int .i64 0) (.int .i64 0) (.int .i64 0)
  clear z0 z1 z2 z3 z4 z5 z6 z7 z8 z9 y0 y1 y2 y3 y4 y5 y6 y7 y8 y9
  obtain ⟨⟨t0, t1, t2, t3, t4⟩, t5, t6, t7, t8, t9⟩ := cells10 hzz
  refine bodyPost_ret (v := .tuple #[.agg #[.int .i64 0, .int .i64 0, .int .i64 0, .int .i64 0, .int .i64 0, .int .i64 0, .int .i64 0, .int .i64 0, .int .i64 0, .int .i64 0], .int .i64 0, .bool false]) (by simp [results, Try.results114, go_sem, t0, t1, t2, t3, t4, t5, t6, t7, t8, t9]) rfl ⟨rfl, ?_⟩
  exact set10_ext HX.out (by omega) _ _ _ _ _ _ _ _ _ _
set_option maxRecDepth 100000 in
set_option maxHeartbeats 1000000 in
theorem rpop_none (b0 b1 b2 b3 b4 b5 b6 b7 hd nn : Int) (hm : Ri.may ⟨[b0, b1, b2, b3, b4, b5, b6, b7], hd, nn⟩ = true) (h0 : nn = 0) (w : World) :
    Calls Try.prog 114 #[.agg #[.int .i64 b0, .int .i64 b1, .int .i64 b2, .int .i64 b3, .int .i64 b4, .int .i64 b5, .int .i64 b6, .int .i64 b7, .int .i64 hd, .int .i64 nn]] w fun e w' => e = .returned (.tuple #[.agg #[.int .i64 b0, .int .i64 b1, .int .i64 b2, .int .i64 b3, .int .i64 b4, .int .i64 b5, .int .i64 b6, .int .i64 b7, .int .i64 hd, .int .i64 nn], .int .i64 0, .bool false]) ∧ Ext w w' := by
  have HM := Lib.hid hm
  have e0 : (nn == 0) = true := by simpa using h0
  clear hm h0
  go_enter Try.func114, Try.ntmps114
  go_wp2_with fail
  refine (rmay_eq b0 b1 b2 b3 b4 b5 b6 b7 hd nn _ HM.out _).mono ?_
  rintro r w1 ⟨rfl, hx1⟩
  have HX := Lib.hid ((((Ext.refl w).alloc (.cells #[.int .i64 b0, .int .i64 b1, .int .i64 b2, .int .i64 b3, .int .i64 b4, .int .i64 b5, .int .i64 b6, .int .i64 b7, .int .i64 hd, .int .i64 nn] 38)).alloc (.cells #[.int .i64 0, .int .i64 0, .int .i64 0, .int .i64 0, .int .i64 0, .int .i64 0, .int .i64 0, .int .i64 0, .int .i64 0, .int .i64 0] 38)).trans hx1)
  have HZB : Hid (w1.heap[w.heap.size + 1]? = some (.cells #[.int .i64 0, .int .i64 0, .int .i64 0, .int .i64 0, .int .i64 0, .int .i64 0, .int .i64 0, .int .i64 0, .int .i64 0, .int .i64 0] 38 (0, 0))) := Lib.hid (hx1.blk (by have := blk_new (w.alloc (.cells #[.int .i64 b0, .int .i64 b1, .int .i64 b2, .int .i64 b3, .int .i64 b4, .int .i64 b5, .int .i64 b6, .int .i64 b7, .int .i64 hd, .int .i64 nn] 38)) (.cells #[.int .i64 0, .int .i64 0, .int .i64 0, .int .i64 0, .int .i64 0, .int .i64 0, .int .i64 0, .int .i64 0, .int .i64 0, .int .i64 0] 38); rwa [World.size_alloc] at this))
  obtain ⟨⟨q0, q1, q2, q3, q4⟩, q5, q6, q7, q8, q9⟩ := cells10 (hx1.blk (blk_alloc (blk_new w (.cells #[.int .i64 b0, .int .i64 b1, .int .i64 b2, .int .i64 b3, .int .i64 b4, .int .i64 b5, .int .i64 b6, .int .i64 b7, .int .i64 hd, .int .i64 nn] 38)) (.cells #[.int .i64 0, .int .i64 0, .int .i64 0, .int .i64 0, .int .i64 0, .int .i64 0, .int .i64 0, .int .i64 0, .int .i64 0, .int .i64 0] 38)))
  clear hx1
  obtain ⟨⟨z0, z1, z2, z3, z4⟩, z5, z6, z7, z8, z9⟩ := cells10 HZB.out
  obtain ⟨⟨y0, y1, y2, y3, y4⟩, y5, y6, y7, y8, y9⟩ := frozen10 HZB.out
  go_wp2
  have hzz := set10_at HZB.out (.int .i64 b0) (.int .i64 b1) (.int .i64 b2) (.int .i64 b3) (.int .i64 b4) (.int .i64 b5) (.int .i64 b6) (.int .i64 b7) (.int .i64 hd) (.int .i64 nn)
  clear z0 z1 z2 z3 z4 z5 z6 z7 z8 z9 y0 y1 y2 y3 y4 y5 y6 y7 y8 y9
  clear q0 q1 q2 q3 q4 q5 q6 q7 q8 q9
  obtain ⟨⟨t0, t1, t2, t3, t4⟩, t5, t6, t7, t8, t9⟩ := cells10 hzz
  refine bodyPost_ret (v := .tuple #[.agg #[.int .i64 b0, .int .i64 b1, .int .i64 b2, .int .i64 b3, .int .i64 b4, .int .i64 b5, .int .i64 b6, .int .i64 b7, .int .i64 hd, .int .i64 nn], .int .i64 0, .bool false]) (by simp [results, Try.results114, go_sem, t0, t1, t2, t3, t4, t5, t6, t7, t8, t9]) rfl ⟨rfl, ?_⟩
  exact set10_ext HX.out (by omega) _ _ _ _ _ _ _ _ _ _
set_option maxRecDepth 100000 in
set_option maxHeartbeats 1000000 in
theorem rpop_ok (b0 b1 b2 b3 b4 b5 b6 b7 : Int) (hd nn : Nat) (hhd : hd < 8) (hnn : nn ≤ 8) (h0 : 0 < nn) (hm : Ri.may ⟨[b0, b1, b2, b3, b4, b5, b6, b7], hd, nn⟩ = true) (c0 c1 c2 c3 c4 c5 c6 c7 x : Int) (hc : ([b0, b1, b2, b3, b4, b5, b6, b7]).set hd 0 = [c0, c1, c2, c3, c4, c5, c6, c7]) (hxx : ([b0, b1, b2, b3, b4, b5, b6, b7])[hd]?.getD 0 = x) (w : World) :
    Calls Try.prog 114 #[.agg #[.int .i64 b0, .int .i64 b1, .int .i64 b2, .int .i64 b3, .int .i64 b4, .int .i64 b5, .int .i64 b6, .int .i64 b7, .int .i64 (hd : Int), .int .i64 (nn : Int)]] w fun e w' => e = .returned (.tuple #[.agg #[.int .i64 c0, .int .i64 c1, .int .i64 c2, .int .i64 c3, .int .i64 c4, .int .i64 c5, .int .i64 c6, .int .i64 c7, .int .i64 (((hd : Int) + 1) % 8), .int .i64 ((nn : Int) - 1)], .int .i64 x, .bool true]) ∧ Ext w w' := by
  have HM := Lib.hid hm
  clear hm
  have e0 : ((nn : Int) == 0) = false := beq_eq_false_iff_ne.2 (by omega)
  go_enter Try.func114, Try.ntmps114
  go_wp2_with fail
  refine (rmay_eq b0 b1 b2 b3 b4 b5 b6 b7 hd nn _ HM.out _).mono ?_
  rintro r w1 ⟨rfl, hx1⟩
  have HX := Lib.hid ((((Ext.refl w).alloc (.cells #[.int .i64 b0, .int .i64 b1, .int .i64 b2, .int .i64 b3, .int .i64 b4, .int .i64 b5, .int .i64 b6, .int .i64 b7, .int .i64 (hd : Int), .int .i64 (nn : Int)] 38)).alloc (.cells #[.int .i64 0, .int .i64 0, .int .i64 0, .int .i64 0, .int .i64 0, .int .i64 0, .int .i64 0, .int .i64 0, .int .i64 0, .int .i64 0] 38)).trans hx1)
  have hb : w1.heap[w.heap.size]? = some (.cells (⟨[b0, b1, b2, b3, b4, b5, b6, b7], hd, nn⟩ : Ri).cells 38 (0, 0)) := hx1.blk (blk_alloc (blk_new w (.cells #[.int .i64 b0, .int .i64 b1, .int .i64 b2, .int .i64 b3, .int .i64 b4, .int .i64 b5, .int .i64 b6, .int .i64 b7, .int .i64 (hd : Int), .int .i64 (nn : Int)] 38)) (.cells #[.int .i64 0, .int .i64 0, .int .i64 0, .int .i64 0, .int .i64 0, .int .i64 0, .int .i64 0, .int .i64 0, .int .i64 0, .int .i64 0] 38))
  have HZ1 : Hid (w1.heap[w.heap.size + 1]? = some (.cells #[.int .i64 0, .int .i64 0, .int .i64 0, .int .i64 0, .int .i64 0, .int .i64 0, .int .i64 0, .int .i64 0, .int .i64 0, .int .i64 0] 38 (0, 0))) := Lib.hid (hx1.blk (by have := blk_new (w.alloc (.cells #[.int .i64 b0, .int .i64 b1, .int .i64 b2, .int .i64 b3, .int .i64 b4, .int .i64 b5, .int .i64 b6, .int .i64 b7, .int .i64 (hd : Int), .int .i64 (nn : Int)] 38)) (.cells #[.int .i64 0, .int .i64 0, .int .i64 0, .int .i64 0, .int .i64 0, .int .i64 0, .int .i64 0, .int .i64 0, .int .i64 0, .int .i64 0] 38); rwa [World.size_alloc] at this))
  have p8 := blk_cell hb 8 (.int .i64 (hd : Int)) rfl
  have p9 := blk_cell hb 9 (.int .i64 (nn : Int)) rfl
  have pj := blk_cell hb hd _ (Ri.cells_buf rfl _ hhd)
  rw [hxx] at pj
  have yj := frozen_of_row _ _ hd _ _ hb
  have e3 : (0 : Int) ≤ (hd : Int) := by omega
  have e4 : (hd : Int) < 8 := by omega
  have e5 : IntKind.i64.wrap ((hd : Int) + 1) = (hd : Int) + 1 := IntWalk.i64_in _ (by omega)
  have e6 : ((hd : Int) + 1).tmod 8 = ((hd : Int) + 1) % 8 := Int.tmod_eq_emod_of_nonneg (by omega)
  have e7 : IntKind.i64.wrap ((nn : Int) - 1) = (nn : Int) - 1 := IntWalk.i64_in _ (by omega)
  have e8 : IntKind.i64.wrap (((hd : Int) + 1) % 8) = ((hd : Int) + 1) % 8 := IntWalk.i64_in _ (by omega)
  have HB2 : Hid ((w1.setCell ⟨w.heap.size, hd, none⟩ (.int .i64 0)).heap[w.heap.size]? = some (.cells #[.int .i64 c0, .int .i64 c1, .int .i64 c2, .int .i64 c3, .int .i64 c4, .int .i64 c5, .int .i64 c6, .int .i64 c7, .int .i64 (hd : Int), .int .i64 (nn : Int)] 38 (0, 0))) := Lib.hid (by
    have := blk_set hb hd (.int .i64 0)
    rw [Ri.cells_set rfl _ hhd] at this
    simp only [hc] at this
    exact this)
  have HZ2 : Hid ((w1.setCell ⟨w.heap.size, hd, none⟩ (.int .i64 0)).heap[w.heap.size + 1]? = some (.cells #[.int .i64 0, .int .i64 0, .int .i64 0, .int .i64 0, .int .i64 0, .int .i64 0, .int .i64 0, .int .i64 0, .int .i64 0, .int .i64 0] 38 (0, 0))) := Lib.hid (blk_set_other HZ1.out _ (by simp) _)
  have HX2 : Hid (Ext w (w1.setCell ⟨w.heap.size, hd, none⟩ (.int .i64 0))) := Lib.hid (HX.out.setCell (Nat.le_refl _) _)
  clear hx1 hb
  go_upto_region 7 with fail
  generalize hw2 : w1.setCell ⟨w.heap.size, hd, none⟩ (.int .i64 0) = w2 at *
  clear hw2 p8 p9 pj yj HX HZ1
  have q8 := blk_cell HB2.out 8 (.int .i64 (hd : Int)) rfl
  have x8 := frozen_of_row _ _ 8 _ _ HB2.out
  have HB3 : Hid ((w2.setCell ⟨w.heap.size, 8, none⟩ (.int .i64 (((hd : Int) + 1) % 8))).heap[w.heap.size]? = some (.cells #[.int .i64 c0, .int .i64 c1, .int .i64 c2, .int .i64 c3, .int .i64 c4, .int .i64 c5, .int .i64 c6, .int .i64 c7, .int .i64 (((hd : Int) + 1) % 8), .int .i64 (nn : Int)] 38 (0, 0))) := Lib.hid (blk_set HB2.out 8 (.int .i64 (((hd : Int) + 1) % 8)))
  have HZ3 : Hid ((w2.setCell ⟨w.heap.size, 8, none⟩ (.int .i64 (((hd : Int) + 1) % 8))).heap[w.heap.size + 1]? = some (.cells #[.int .i64 0, .int .i64 0, .int .i64 0, .int .i64 0, .int .i64 0, .int .i64 0, .int .i64 0, .int .i64 0, .int .i64 0, .int .i64 0] 38 (0, 0))) := Lib.hid (blk_set_other HZ2.out _ (by simp) _)
  have HX3 : Hid (Ext w (w2.setCell ⟨w.heap.size, 8, none⟩ (.int .i64 (((hd : Int) + 1) % 8)))) := Lib.hid (HX2.out.setCell (Nat.le_refl _) _)
  go_upto_region 8 with fail
  generalize hw3 : w2.setCell ⟨w.heap.size, 8, none⟩ (.int .i64 (((hd : Int) + 1) % 8)) = w3 at *
  clear hw3 q8 x8 HB2 HZ2 HX2
  have q9 := blk_cell HB3.out 9 (.int .i64 (nn : Int)) rfl
  have x9 := frozen_of_row _ _ 9 _ _ HB3.out
  have HB4 : Hid ((w3.setCell ⟨w.heap.size, 9, none⟩ (.int .i64 ((nn : Int) - 1))).heap[w.heap.size]? = some (.cells #[.int .i64 c0, .int .i64 c1, .int .i64 c2, .int .i64 c3, .int .i64 c4, .int .i64 c5, .int .i64 c6, .int .i64 c7, .int .i64 (((hd : Int) + 1) % 8), .int .i64 ((nn : Int) - 1)] 38 (0, 0))) := Lib.hid (blk_set HB3.out 9 (.int .i64 ((nn : Int) - 1)))
  have HZ4 : Hid ((w3.setCell ⟨w.heap.size, 9, none⟩ (.int .i64 ((nn : Int) - 1))).heap[w.heap.size + 1]? = some (.cells #[.int .i64 0, .int .i64 0, .int .i64 0, .int .i64 0, .int .i64 0, .int .i64 0, .int .i64 0, .int .i64 0, .int .i64 0, .int .i64 0] 38 (0, 0))) := Lib.hid (blk_set_other HZ3.out _ (by simp) _)
  have HX4 : Hid (Ext w (w3.setCell ⟨w.heap.size, 9, none⟩ (.int .i64 ((nn : Int) - 1)))) := Lib.hid (HX3.out.setCell (Nat.le_refl _) _)
  go_upto_region 9 with fail
  generalize hw4 : w3.setCell ⟨w.heap.size, 9, none⟩ (.int .i64 ((nn : Int) - 1)) = w4 at *
  clear hw4 q9 x9 HB3 HZ3 HX3 e5 e6 e7 e8
  obtain ⟨⟨q0, q1, q2, q3, q4⟩, q5, q6, q7, q8, q9⟩ := cells10 HB4.out
  have HZB := HZ4
  obtain ⟨⟨z0, z1, z2, z3, z4⟩, z5, z6, z7, z8, z9⟩ := cells10 HZB.out
  obtain ⟨⟨y0, y1, y2, y3, y4⟩, y5, y6, y7, y8, y9⟩ := frozen10 HZB.out
  go_wp2
  have hzz := set10_at HZB.out (.int .i64 c0) (.int .i64 c1) (.int .i64 c2) (.int .i64 c3) (.int .i64 c4) (.int .i64 c5) (.int .i64 c6) (.int .i64 c7) (.int .i64 (((hd : Int) + 1) % 8)) (.int .i64 ((nn : Int) - 1))
  clear z0 z1 z2 z3 z4 z5 z6 z7 z8 z9 y0 y1 y2 y3 y4 y5 y6 y7 y8 y9
  clear q0 q1 q2 q3 q4 q5 q6 q7 q8 q9
  obtain ⟨⟨t0, t1, t2, t3, t4⟩, t5, t6, t7, t8, t9⟩ := cells10 hzz
  refine bodyPost_ret (v := .tuple #[.agg #[.int .i64 c0, .int .i64 c1, .int .i64 c2, .int .i64 c3, .int .i64 c4, .int .i64 c5, .int .i64 c6, .int .i64 c7, .int .i64 (((hd : Int) + 1) % 8), .int .i64 ((nn : Int) - 1)], .int .i64 x, .bool true]) (by simp [results, Try.results114, go_sem, t0, t1, t2, t3, t4, t5, t6, t7, t8, t9]) rfl ⟨rfl, ?_⟩
  exact set10_ext HX4.out (by omega) _ _ _ _ _ _ _ _ _ _
/-- What a call of Pop answers. -/
theorem rpop_k (b0 b1 b2 b3 b4 b5 b6 b7 hd nn : Int) (c0 c1 c2 c3 c4 c5 c6 c7 hd' nn' x : Int) (ok : Bool) (h : Ri.pop ⟨[b0, b1, b2, b3, b4, b5, b6, b7], hd, nn⟩ = (⟨[c0, c1, c2, c3, c4, c5, c6, c7], hd', nn'⟩, x, ok)) (w : World) :
    Calls Try.prog 114 #[.agg #[.int .i64 b0, .int .i64 b1, .int .i64 b2, .int .i64 b3, .int .i64 b4, .int .i64 b5, .int .i64 b6, .int .i64 b7, .int .i64 hd, .int .i64 nn]] w fun e w' => e = .returned (.tuple #[.agg #[.int .i64 c0, .int .i64 c1, .int .i64 c2, .int .i64 c3, .int .i64 c4, .int .i64 c5, .int .i64 c6, .int .i64 c7, .int .i64 hd', .int .i64 nn'], .int .i64 x, .bool ok]) ∧ Ext w w' := by
  unfold Ri.pop at h
  split at h
  · rename_i hm
    have hi : Ri.inside ⟨[b0, b1, b2, b3, b4, b5, b6, b7], hd, nn⟩ = true := by have := hm; unfold Ri.may at this; rw [Bool.and_eq_true] at this; exact this.1
    obtain ⟨a, n, rfl, rfl, h1, h2⟩ := Ri.inside_nat hi
    split at h
    · rename_i h0
      simp only [Prod.mk.injEq, Ri.mk.injEq, List.cons.injEq, and_true] at h
      obtain ⟨⟨⟨rfl, rfl, rfl, rfl, rfl, rfl, rfl, rfl⟩, rfl, rfl⟩, rfl, rfl⟩ := h
      exact rpop_none b0 b1 b2 b3 b4 b5 b6 b7 a n hm h0 w
    · rename_i h0
      simp only [Prod.mk.injEq, Ri.mk.injEq, Int.toNat_natCast] at h
      obtain ⟨⟨hs, rfl, rfl⟩, hx, rfl⟩ := h
      exact rpop_ok b0 b1 b2 b3 b4 b5 b6 b7 a n h1 h2 (by simp only at h0; omega) hm c0 c1 c2 c3 c4 c5 c6 c7 x hs hx w
  · rename_i hm
    simp only [Prod.mk.injEq, Ri.zero, Ri.mk.injEq, List.cons.injEq, and_true] at h
    obtain ⟨⟨⟨rfl, rfl, rfl, rfl, rfl, rfl, rfl, rfl⟩, rfl, rfl⟩, rfl, rfl⟩ := h
    exact rpop_no b0 b1 b2 b3 b4 b5 b6 b7 hd nn (by simpa using hm) w

end Go.Proofs.Ytogcfndhcphpaaa
