/-
  The contract of ring.May, in all.
-/
import Derived.Test.YtdpmogbibmgolaaNc
import Derived.ChangeKeysEq
set_option linter.unusedVariables false
set_option linter.unusedSimpArgs false
namespace Go.Proofs.Ytdpmogbibmgolaa
open Go.RowKit Go.Shelf
attribute [local go_sem] Oper.semAt_some

theorem keepsAt_t (g : Nat) {A B C : World} (h : KeepsAt g A B) (k : KeepsAt g B C) : KeepsAt g A C := fun o ho => k o (h o ho)
theorem keepsAt_b {g : Nat} {w : World} (hg : g < w.heap.size) (W : World) (l : Nat) (o o' : Obj) (hl : w.heap.size ≤ l) (_ : W.heap[l]? = some o) (_ : o.isCells = false) (_ : o.isWalk = false) : KeepsAt g W (W.putObj l o') :=
  fun _ h => (World.putObj_heap_other (by omega)).trans h
theorem keepsAt_set {g b : Nat} (W : World) (hne : b ≠ g) (i : Nat) (v : Value) : KeepsAt g W (W.setCell ⟨b, i, none⟩ v) := fun _ h => blk_set_other h _ hne v
theorem blk_own {β : Type} (B : Nat) (f : β → Obj) (hf : ∀ s, (f s).isCells = true) : Own (fun s (W : World) => W.heap[B]? = some (f s)) := fun s X Y row hs hg hrow =>
  (hg.block B (blk_lt hs) (fun e' => by obtain ⟨o, ho, hc⟩ := hrow B e'.symm; rw [hs] at ho; cases ho; rw [hf s] at hc; cases hc)).trans hs
/-- The cells of a buffer. -/
def bufCells (bs : List Int) : Array Value := (bs.map (Value.int .i64)).toArray
theorem bufCells_at {bs : List Int} {j : Nat} (hj : j < bs.length) : (bufCells bs)[j]? = some (.int .i64 bs[j]) := by
  unfold bufCells; rw [List.getElem?_toArray, List.getElem?_map, List.getElem?_eq_getElem hj]; rfl
theorem bufCells_set (bs : List Int) (j : Nat) (x : Int) : (bufCells bs).setIfInBounds j (.int .i64 x) = bufCells (bs.set j x) := by
  unfold bufCells; rw [List.setIfInBounds_toArray, List.map_set]
theorem run_eqItems_ints (d : Nat) (f g : Nat → Int) (xs ys : Array Value) (w : World) : ∀ is : List Nat, (∀ i ∈ is, xs[i]? = some (.int .i64 (f i)) ∧ ys[i]? = some (.int .i64 (g i))) →
    (Op.eqItems (d + 1) 3 1 xs ys is).run Try.prog w = .ok (is.all fun i => f i == g i) w
  | [], _ => by simp [Op.eqItems]
  | i :: is, h => by
    obtain ⟨h1, h2⟩ := h i (by simp)
    have ih := run_eqItems_ints d f g xs ys w is fun j hj => h j (by simp [hj])
    have p1 := run_part_plain (P := Try.prog) w (e := 3) (by kernel_rfl) (xs := xs) (off := i * 1) (by rw [Nat.mul_one]; exact h1)
    have p2 := run_part_plain (P := Try.prog) w (e := 3) (by kernel_rfl) (xs := ys) (off := i * 1) (by rw [Nat.mul_one]; exact h2)
    simp only [Op.eqItems, Sem.run_bind, p1, p2, Result.andThen_ok, run_equalIn_int w d 3 .i64 .i64 (f i) (g i) Try.underlying3, List.all_cons]
    cases hb : (f i == g i) with
    | false => simp
    | true => simpa using ih
theorem run_eq8 (bs cs : List Int) (hb : bs.length = 8) (hc : cs.length = 8) (b : Bool) (h : decide (bs = cs) = b) (w : World) :
    (Op.equalIn 10000 22 (.agg (bufCells bs)) (.agg (bufCells cs))).run Try.prog w = .ok b w := by
  obtain ⟨i, hi⟩ := info_of_underlying Try.underlying3
  have e1 : Try.prog.cellsOf 3 = 1 := by kernel_rfl
  rw [show 10000 = 9998 + 1 + 1 from rfl, run_equalIn_array (P := Try.prog) w (9998 + 1) _ _ Try.underlying22 hi, e1]
  rw [run_eqItems_ints 9998 (fun i => bs[i]?.getD 0) (fun i => cs[i]?.getD 0) _ _ w _ fun j hj => by
    have hj' := List.mem_range.1 hj
    rw [bufCells_at (by omega), bufCells_at (by omega), List.getElem?_eq_getElem (by omega), List.getElem?_eq_getElem (by omega)]
    exact ⟨rfl, rfl⟩]
  obtain ⟨b0, b1, b2, b3, b4, b5, b6, b7, rfl⟩ := list8 hb
  obtain ⟨c0, c1, c2, c3, c4, c5, c6, c7, rfl⟩ := list8 hc
  subst h
  congr 1
  rw [Bool.eq_iff_iff]
  simp [List.range_succ, List.all_append]
set_option maxRecDepth 100000 in
set_option maxHeartbeats 2000000 in
theorem rmay_in (b0 b1 b2 b3 b4 b5 b6 b7 : Int) (hd nn : Nat) (hhd : hd < 8) (hnn : nn ≤ 8) (m : Bool) (hm : Ri.may ⟨[b0, b1, b2, b3, b4, b5, b6, b7], hd, nn⟩ = m) (w : World) :
    Calls Try.prog 12 #[.agg #[.int .i64 b0, .int .i64 b1, .int .i64 b2, .int .i64 b3, .int .i64 b4, .int .i64 b5, .int .i64 b6, .int .i64 b7, .int .i64 (hd : Int), .int .i64 (nn : Int)]] w fun e w' => e = .returned (.bool m) ∧ Ext w w' := by
  have hmi := Ri.may_iff hhd hnn (bs := [b0, b1, b2, b3, b4, b5, b6, b7]) rfl
  rw [hm] at hmi
  have HMI := Lib.hid hmi
  clear hmi hm
  have i0 : (0 : Int) ≤ (hd : Int) := by omega
  have i1 : (hd : Int) < 8 := by omega
  have i2 : (0 : Int) ≤ (nn : Int) := by omega
  have i3 : (nn : Int) ≤ 8 := by omega
  refine (callsIn_wide (n := 3)).1 ?_
  have h1 : 1 ≤ 3 := by omega
  refine callsIn_of_wp_marks Try.func12 rfl trivial ?_ rfl
  simp only [Try.ntmps12, List.size_toArray, List.length_cons, List.length_nil, Nat.reduceAdd, Nat.reduceSub, Array.replicate_succ, Array.replicate_zero, List.push_toArray, List.append_toArray, List.nil_append, List.cons_append]
  gi_wp2_with (refine ⟨trivial, ?_⟩; gi_at_call 17; refine (elements_in Fence.wide (3 - 1) trivial rfl _ _ _ _ _ _ _ _ _ _ _).mono ?_; rintro e w' ⟨rfl, rfl⟩)
  have hA1 : ((((w.alloc (.cells #[.int .i64 b0, .int .i64 b1, .int .i64 b2, .int .i64 b3, .int .i64 b4, .int .i64 b5, .int .i64 b6, .int .i64 b7, .int .i64 (hd : Int), .int .i64 (nn : Int)] 24)).alloc (.cells #[.bool false] 4)).alloc (.cells #[.int .i64 b0, .int .i64 b1, .int .i64 b2, .int .i64 b3, .int .i64 b4, .int .i64 b5, .int .i64 b6, .int .i64 b7] 22)).alloc (.cells #[.int .i64 b0, .int .i64 b1, .int .i64 b2, .int .i64 b3, .int .i64 b4, .int .i64 b5, .int .i64 b6, .int .i64 b7, .int .i64 (hd : Int), .int .i64 (nn : Int)] 24)).heap[(w.heap.size + 1)]? = some (.cells #[.bool false] 4 (0, 0)) := by
    have := blk_alloc (blk_alloc (blk_new (w.alloc (.cells #[.int .i64 b0, .int .i64 b1, .int .i64 b2, .int .i64 b3, .int .i64 b4, .int .i64 b5, .int .i64 b6, .int .i64 b7, .int .i64 (hd : Int), .int .i64 (nn : Int)] 24)) (.cells #[.bool false] 4)) (.cells #[.int .i64 b0, .int .i64 b1, .int .i64 b2, .int .i64 b3, .int .i64 b4, .int .i64 b5, .int .i64 b6, .int .i64 b7] 22)) (.cells #[.int .i64 b0, .int .i64 b1, .int .i64 b2, .int .i64 b3, .int .i64 b4, .int .i64 b5, .int .i64 b6, .int .i64 b7, .int .i64 (hd : Int), .int .i64 (nn : Int)] 24)
    rwa [World.size_alloc] at this
  have hA2 : ((((w.alloc (.cells #[.int .i64 b0, .int .i64 b1, .int .i64 b2, .int .i64 b3, .int .i64 b4, .int .i64 b5, .int .i64 b6, .int .i64 b7, .int .i64 (hd : Int), .int .i64 (nn : Int)] 24)).alloc (.cells #[.bool false] 4)).alloc (.cells #[.int .i64 b0, .int .i64 b1, .int .i64 b2, .int .i64 b3, .int .i64 b4, .int .i64 b5, .int .i64 b6, .int .i64 b7] 22)).alloc (.cells #[.int .i64 b0, .int .i64 b1, .int .i64 b2, .int .i64 b3, .int .i64 b4, .int .i64 b5, .int .i64 b6, .int .i64 b7, .int .i64 (hd : Int), .int .i64 (nn : Int)] 24)).heap[(w.heap.size + 1 + 1)]? = some (.cells (bufCells [b0, b1, b2, b3, b4, b5, b6, b7]) 22 (0, 0)) := by
    have := blk_alloc (blk_new ((w.alloc (.cells #[.int .i64 b0, .int .i64 b1, .int .i64 b2, .int .i64 b3, .int .i64 b4, .int .i64 b5, .int .i64 b6, .int .i64 b7, .int .i64 (hd : Int), .int .i64 (nn : Int)] 24)).alloc (.cells #[.bool false] 4)) (.cells #[.int .i64 b0, .int .i64 b1, .int .i64 b2, .int .i64 b3, .int .i64 b4, .int .i64 b5, .int .i64 b6, .int .i64 b7] 22)) (.cells #[.int .i64 b0, .int .i64 b1, .int .i64 b2, .int .i64 b3, .int .i64 b4, .int .i64 b5, .int .i64 b6, .int .i64 b7, .int .i64 (hd : Int), .int .i64 (nn : Int)] 24)
    rwa [World.size_alloc, World.size_alloc] at this
  have hA3 : RingIn (w.heap.size + 1 + 1 + 1) ⟨[b0, b1, b2, b3, b4, b5, b6, b7], hd, nn⟩ ((((w.alloc (.cells #[.int .i64 b0, .int .i64 b1, .int .i64 b2, .int .i64 b3, .int .i64 b4, .int .i64 b5, .int .i64 b6, .int .i64 b7, .int .i64 (hd : Int), .int .i64 (nn : Int)] 24)).alloc (.cells #[.bool false] 4)).alloc (.cells #[.int .i64 b0, .int .i64 b1, .int .i64 b2, .int .i64 b3, .int .i64 b4, .int .i64 b5, .int .i64 b6, .int .i64 b7] 22)).alloc (.cells #[.int .i64 b0, .int .i64 b1, .int .i64 b2, .int .i64 b3, .int .i64 b4, .int .i64 b5, .int .i64 b6, .int .i64 b7, .int .i64 (hd : Int), .int .i64 (nn : Int)] 24)) := by
    have := blk_new (((w.alloc (.cells #[.int .i64 b0, .int .i64 b1, .int .i64 b2, .int .i64 b3, .int .i64 b4, .int .i64 b5, .int .i64 b6, .int .i64 b7, .int .i64 (hd : Int), .int .i64 (nn : Int)] 24)).alloc (.cells #[.bool false] 4)).alloc (.cells #[.int .i64 b0, .int .i64 b1, .int .i64 b2, .int .i64 b3, .int .i64 b4, .int .i64 b5, .int .i64 b6, .int .i64 b7] 22)) (.cells #[.int .i64 b0, .int .i64 b1, .int .i64 b2, .int .i64 b3, .int .i64 b4, .int .i64 b5, .int .i64 b6, .int .i64 b7, .int .i64 (hd : Int), .int .i64 (nn : Int)] 24)
    rwa [World.size_alloc, World.size_alloc, World.size_alloc] at this
  have hX0 : Ext w ((((w.alloc (.cells #[.int .i64 b0, .int .i64 b1, .int .i64 b2, .int .i64 b3, .int .i64 b4, .int .i64 b5, .int .i64 b6, .int .i64 b7, .int .i64 (hd : Int), .int .i64 (nn : Int)] 24)).alloc (.cells #[.bool false] 4)).alloc (.cells #[.int .i64 b0, .int .i64 b1, .int .i64 b2, .int .i64 b3, .int .i64 b4, .int .i64 b5, .int .i64 b6, .int .i64 b7] 22)).alloc (.cells #[.int .i64 b0, .int .i64 b1, .int .i64 b2, .int .i64 b3, .int .i64 b4, .int .i64 b5, .int .i64 b6, .int .i64 b7, .int .i64 (hd : Int), .int .i64 (nn : Int)] 24)) := ((((Ext.refl w).alloc _).alloc _).alloc _).alloc _
  have hS3 : ((((w.alloc (.cells #[.int .i64 b0, .int .i64 b1, .int .i64 b2, .int .i64 b3, .int .i64 b4, .int .i64 b5, .int .i64 b6, .int .i64 b7, .int .i64 (hd : Int), .int .i64 (nn : Int)] 24)).alloc (.cells #[.bool false] 4)).alloc (.cells #[.int .i64 b0, .int .i64 b1, .int .i64 b2, .int .i64 b3, .int .i64 b4, .int .i64 b5, .int .i64 b6, .int .i64 b7] 22)).alloc (.cells #[.int .i64 b0, .int .i64 b1, .int .i64 b2, .int .i64 b3, .int .i64 b4, .int .i64 b5, .int .i64 b6, .int .i64 b7, .int .i64 (hd : Int), .int .i64 (nn : Int)] 24)).heap.size = w.heap.size + 4 := by simp [World.size_alloc]
  generalize hW3 : ((((w.alloc (.cells #[.int .i64 b0, .int .i64 b1, .int .i64 b2, .int .i64 b3, .int .i64 b4, .int .i64 b5, .int .i64 b6, .int .i64 b7, .int .i64 (hd : Int), .int .i64 (nn : Int)] 24)).alloc (.cells #[.bool false] 4)).alloc (.cells #[.int .i64 b0, .int .i64 b1, .int .i64 b2, .int .i64 b3, .int .i64 b4, .int .i64 b5, .int .i64 b6, .int .i64 b7] 22)).alloc (.cells #[.int .i64 b0, .int .i64 b1, .int .i64 b2, .int .i64 b3, .int .i64 b4, .int .i64 b5, .int .i64 b6, .int .i64 b7, .int .i64 (hd : Int), .int .i64 (nn : Int)] 24)) = W3 at *
  clear hW3
  apply wpIn_rangeFunc_ownF rfl h1 (gf := 18) (lb := #[.pointer (some ⟨(w.heap.size + 1 + 1 + 1), 0, none⟩)]) rfl trivial (enters_of Try.func18 (by kernel_rfl) rfl)
    (elements_stops Fence.wide (3 - 1) trivial rfl (by omega) (w.heap.size + 1 + 1 + 1) hd nn [b0, b1, b2, b3, b4, b5, b6, b7] rfl hhd hnn W3 (by omega) hA3) (keepsAt_t (w.heap.size + 1 + 1 + 1)) (keepsAt_b (by omega)) (Below.refl _ _) (fun _ => rfl)
    (fun pre W => ((∀ p ∈ pre, 1 ≤ p.1.2) ∧ W.heap[(w.heap.size + 1)]? = some (.cells #[.bool false] 4 (0, 0)) ∧ W.heap[(w.heap.size + 1 + 1)]? = some (.cells (bufCells (Ri.rest [b0, b1, b2, b3, b4, b5, b6, b7] pre)) 22 (0, 0))) ∧ Ext w W)
    (fun c pre W => (c = .ret ∧ (∃ p ∈ pre, p.1.2 < 1) ∧ W.heap[(w.heap.size + 1)]? = some (.cells #[.bool false] 4 (0, 0))) ∧ Ext w W)
    (OwnFrom.and (Own.from (fun s A B row hs hg hr => ⟨hs.1, blk_own (w.heap.size + 1) (fun (_ : Unit) => .cells #[.bool false] 4 (0, 0)) (fun _ => rfl) () A B row hs.2.1 hg hr, blk_own (w.heap.size + 1 + 1) (fun (_ : Unit) => .cells (bufCells (Ri.rest [b0, b1, b2, b3, b4, b5, b6, b7] s)) 22 (0, 0)) (fun _ => rfl) () A B row hs.2.2 hg hr⟩) _) (ownFrom_below (Nat.le_refl _) (by omega)))
    (fun c => OwnFrom.and (Own.from (fun s A B row hs hg hr => ⟨hs.1, hs.2.1, blk_own (w.heap.size + 1) (fun (_ : Unit) => .cells #[.bool false] 4 (0, 0)) (fun _ => rfl) () A B row hs.2.2 hg hr⟩) _) (ownFrom_below (Nat.le_refl _) (by omega)))
    ⟨⟨by simp, hA1, hA2⟩, hX0⟩ _ ?assign ?body ?done ?stop
  case assign =>
    intro l x W K hK
    gi_wp2
    exact hK
  case body =>
    rintro l pre ⟨⟨x1, x2⟩, hx0, hx8⟩ W ⟨⟨hp, hc1, hc2⟩, hB⟩ hlt
    simp only at hx0 hx8
    obtain ⟨a, rfl⟩ : ∃ a : Nat, x1 = a := ⟨x1.toNat, by omega⟩
    have hlen : (Ri.rest [b0, b1, b2, b3, b4, b5, b6, b7] pre).length = 8 := by rw [Ri.rest_len]; rfl
    have ha8 : a < 8 := by omega
    by_cases hx : x2 < 1
    · have z1 := blk_cell hc1 0 (.bool false) rfl
      have y1 := frozen_of_row _ _ 0 _ _ hc1
      gi_wp2
      exact ⟨KeepsOthers.setCell _ _ _, ⟨rfl, ⟨_, List.mem_append.2 (.inr (List.mem_singleton.2 rfl)), hx⟩, blk_set hc1 0 (.bool false)⟩, hB.setCell (p := ⟨(w.heap.size + 1), 0, none⟩) (by simp only; omega) _⟩
    · have z2 := blk_cell hc2 a _ (bufCells_at (by omega))
      have y2 := frozen_of_row _ _ a _ _ hc2
      have hx' : 1 ≤ x2 := by omega
      clear hx
      gi_wp2
      refine ⟨KeepsOthers.setCell _ _ _, keepsAt_set _ (by omega) _ _, ⟨?_, ?_, ?_⟩, hB.setCell (p := ⟨(w.heap.size + 1 + 1), a, none⟩) (by simp only; omega) _⟩
      · intro p hpm
        rcases List.mem_append.1 hpm with h | h
        · exact hp p h
        · rw [List.mem_singleton.1 h]; exact hx'
      · exact blk_set_other hc1 _ (by simp only; omega) _
      · have := blk_set hc2 a (.int .i64 0)
        rw [bufCells_set] at this
        rw [Ri.rest_snoc]
        exact this
  case done =>
    rintro D ys W hD rfl ⟨⟨hp, hc1, hc2⟩, hB⟩ hK
    rw [Ri.rest_upto] at hc2
    have hpos := (Ri.pos_upto hd [b0, b1, b2, b3, b4, b5, b6, b7] nn).1 hp
    have z1 := blk_cell hc1 0 (.bool false) rfl
    have y1 := frozen_of_row _ _ 0 _ _ hc1
    obtain ⟨c0, c1, c2, c3, c4, c5, c6, c7, hcs⟩ := list8 (l := Ri.zeroed hd [b0, b1, b2, b3, b4, b5, b6, b7] nn) (by rw [Ri.zeroed_len]; rfl)
    have hmm := HMI.out
    rw [hcs] at hc2 hmm
    have k0 := blk_cell hc2 0 (.int .i64 c0) rfl
    have k1 := blk_cell hc2 1 (.int .i64 c1) rfl
    have k2 := blk_cell hc2 2 (.int .i64 c2) rfl
    have k3 := blk_cell hc2 3 (.int .i64 c3) rfl
    have k4 := blk_cell hc2 4 (.int .i64 c4) rfl
    have k5 := blk_cell hc2 5 (.int .i64 c5) rfl
    have k6 := blk_cell hc2 6 (.int .i64 c6) rfl
    have k7 := blk_cell hc2 7 (.int .i64 c7) rfl
    have HB := Lib.hid hB
    have HC1 := Lib.hid hc1
    have HK := Lib.hid hK
    clear hB hc1 hK hc2
    cases m with
    | true =>
      obtain ⟨_, hz⟩ := hmm.1 rfl
      simp only [List.cons.injEq, and_true] at hz
      obtain ⟨rfl, rfl, rfl, rfl, rfl, rfl, rfl, rfl⟩ := hz
      have heq := run_eq8 [0, 0, 0, 0, 0, 0, 0, 0] [0, 0, 0, 0, 0, 0, 0, 0] rfl rfl true (decide_eq_true rfl)
      simp only [bufCells, List.map_cons, List.map_nil] at heq
      clear hmm
      gi_wp2
      have HK1 := (KeepsOthers.setCell W ⟨(w.heap.size + 1), 0, none⟩ (.bool true)).same D _ HK.out rfl
      have hc5 := cell_kept (blk_cell (blk_set HC1.out 0 (.bool true)) 0 (.bool true) rfl) (grownBy_putObj' _ D (.deferred none)) (fun r e => by cases e; exact ⟨_, HK1, rfl⟩)
      refine ⟨by simp, .inl ⟨_, _, rfl, run_takeDeferred HK1, ?_⟩⟩
      refine ⟨.bool true, ?_, rfl, Below.trans (show Below w.heap.size w _ from HB.out.setCell (p := ⟨(w.heap.size + 1), 0, none⟩) (by simp only; omega) _) (belowK_b (w := w) (Nat.le_refl _) _ D _ _ (by omega) HK1 rfl rfl)⟩
      simp [results, Try.f12, go_sem, hc5]
    | false =>
      have hz : ¬ ([c0, c1, c2, c3, c4, c5, c6, c7] = [0, 0, 0, 0, 0, 0, 0, 0]) := fun h => by cases hmm.2 ⟨hpos, h⟩
      have heq := run_eq8 [c0, c1, c2, c3, c4, c5, c6, c7] [0, 0, 0, 0, 0, 0, 0, 0] rfl rfl false (decide_eq_false hz)
      simp only [bufCells, List.map_cons, List.map_nil] at heq
      clear hmm
      gi_wp2
      have HK1 := (KeepsOthers.setCell W ⟨(w.heap.size + 1), 0, none⟩ (.bool false)).same D _ HK.out rfl
      have hc5 := cell_kept (blk_cell (blk_set HC1.out 0 (.bool false)) 0 (.bool false) rfl) (grownBy_putObj' _ D (.deferred none)) (fun r e => by cases e; exact ⟨_, HK1, rfl⟩)
      refine ⟨by simp, .inl ⟨_, _, rfl, run_takeDeferred HK1, ?_⟩⟩
      refine ⟨.bool false, ?_, rfl, Below.trans (show Below w.heap.size w _ from HB.out.setCell (p := ⟨(w.heap.size + 1), 0, none⟩) (by simp only; omega) _) (belowK_b (w := w) (Nat.le_refl _) _ D _ _ (by omega) HK1 rfl rfl)⟩
      simp [results, Try.f12, go_sem, hc5]
  case stop =>
    rintro D c pre W hD ⟨k, hk, rfl⟩ ⟨⟨rfl, ⟨p, hpm, hp⟩, hc1⟩, hB⟩ hK
    have hm : m = false := by
      cases hmm : m with
      | false => rfl
      | true =>
        have h2 := (HMI.out.1 hmm).1
        have h3 := (Ri.pos_upto hd [b0, b1, b2, b3, b4, b5, b6, b7] k).2 (fun i hi => h2 i (by omega)) p hpm
        omega
    subst hm
    gi_wp2
    refine ⟨by simp, .inl ⟨_, _, rfl, run_takeDeferred hK, ?_⟩⟩
    have hc5 := cell_kept (blk_cell hc1 0 (.bool false) rfl) (grownBy_putObj' _ D (.deferred none)) (fun r e => by cases e; exact ⟨_, hK, rfl⟩)
    refine ⟨.bool false, ?_, rfl, Below.trans (show Below w.heap.size w W from hB) (belowK_b (w := w) (Nat.le_refl _) W D _ _ (by omega) hK rfl rfl)⟩
    simp [results, Try.f12, go_sem, hc5]

end Go.Proofs.Ytdpmogbibmgolaa
