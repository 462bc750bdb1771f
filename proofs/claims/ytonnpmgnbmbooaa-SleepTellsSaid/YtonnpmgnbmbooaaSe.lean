/-
  The contract of sleep.Put.
-/
import Derived.Test.YtonnpmgnbmbooaaSd
set_option linter.unusedVariables false
set_option linter.unusedSimpArgs false
namespace Go.Proofs.Ytonnpmgnbmbooaa
open Go.RowKit

/-- How many stand ahead of a timer. -/
def Sl.at (l : List (Int × Int)) (t : Int × Int) : Nat := (l.takeWhile fun q => decide (Sl.lt q t)).length
def Sl.ins (l : List (Int × Int)) (t : Int × Int) : List (Int × Int) := l.take (Sl.at l t) ++ [t] ++ l.drop (Sl.at l t)
theorem Sl.at_le (l : List (Int × Int)) (t : Int × Int) : Sl.at l t ≤ l.length := (List.takeWhile_sublist _).length_le
theorem Sl.at_lt (l : List (Int × Int)) (t : Int × Int) (j : Nat) (q : Int × Int) (hj : j < Sl.at l t) (hq : l[j]? = some q) : Sl.lt q t := by
  have h1 := List.takeWhile_append_dropWhile (p := fun q => decide (Sl.lt q t)) (l := l)
  have h2 : (l.takeWhile fun q => decide (Sl.lt q t))[j]? = some q := by
    rw [← h1, List.getElem?_append_left hj] at hq; exact hq
  have h3 : ∀ (m : List (Int × Int)), ∀ x ∈ m.takeWhile (fun q => decide (Sl.lt q t)), Sl.lt x t := by
    intro m
    induction m with
    | nil => intro x hx; simp at hx
    | cons y m ih =>
      intro x hx
      rw [List.takeWhile_cons] at hx
      by_cases hy : Sl.lt y t
      · simp [hy] at hx
        rcases hx with rfl | hx
        · exact hy
        · exact ih x hx
      · simp [hy] at hx
  exact h3 l q (List.mem_of_getElem? h2)
theorem Sl.at_stop (l : List (Int × Int)) (t : Int × Int) (q : Int × Int) (hq : l[Sl.at l t]? = some q) : ¬ Sl.lt q t := by
  induction l with
  | nil => simp at hq
  | cons x l ih =>
    unfold Sl.at at *
    rw [List.takeWhile_cons] at hq
    by_cases hx : Sl.lt x t
    · simp [hx] at hq
      exact ih hq
    · simp [hx] at hq
      subst hq; exact hx
/-- The place is found by going on while the next one stands ahead. -/
theorem Sl.at_eq {l : List (Int × Int)} {t : Int × Int} {k : Nat} (hk : k ≤ Sl.at l t) (h : ∀ q, l[k]? = some q → ¬ Sl.lt q t) : k = Sl.at l t := by
  rcases Nat.lt_or_ge k (Sl.at l t) with hlt | hge
  · have hl := Sl.at_le l t
    have hq := List.getElem?_eq_getElem (l := l) (i := k) (by omega)
    exact absurd (Sl.at_lt l t k _ hlt hq) (h _ hq)
  · omega
theorem Sl.at_next {l : List (Int × Int)} {t q : Int × Int} {k : Nat} (hk : k ≤ Sl.at l t) (hq : l[k]? = some q) (h : Sl.lt q t) : k + 1 ≤ Sl.at l t := by
  rcases Nat.lt_or_ge k (Sl.at l t) with hlt | hge
  · omega
  · obtain rfl : k = Sl.at l t := by omega
    exact absurd h (Sl.at_stop l t q hq)
def TBox (W : World) (t : Int × Int) (u : Value) (v : World) : Prop := ∃ b, u = .slice (some ⟨b, 0, none⟩) 1 1 ∧ PairsAt v u [t] ∧ Ext W v
theorem TBox.x {W : World} {t : Int × Int} {u : Value} {v : World} (h : TBox W t u v) : Ext W v := by obtain ⟨_, _, _, hx⟩ := h; exact hx
def TThree (W : World) (s0 s1 s2 : Value) (t : Int × Int) (u : Value) (v : World) : Prop := ∃ b, u = .slice (some ⟨b, 0, none⟩) 3 3 ∧ v.heap[b]? = some (.cells #[s0, s1, s2] 22 (0, 0)) ∧ PairsAt v s1 [t] ∧ Ext W v
theorem TThree.x {W : World} {s0 s1 s2 : Value} {t : Int × Int} {u : Value} {v : World} (h : TThree W s0 s1 s2 t u v) : Ext W v := by obtain ⟨_, _, _, _, hx⟩ := h; exact hx
def TOut (W : World) (xs : List (Int × Int)) (u : Value) (v : World) : Prop := PairsAt v u xs ∧ Ext W v ∧ ∀ k, u.ownBlock = some k → W.heap.size ≤ k
theorem pairs_one (v : World) (t0 t1 : Int) : PairsAt (v.alloc (.cells #[.int .i64 t0, .int .i64 t1] 24)) (.slice (some ⟨v.heap.size, 0, none⟩) 1 1) [(t0, t1)] := by
  refine ⟨_, 1, rfl, by simp, fun _ => ⟨v.heap.size, 0, rfl, by simp, fun j p hj => ?_⟩⟩
  match j with
  | 0 =>
    simp at hj; subst hj
    exact ⟨blk_cell (blk_new v _) 0 _ rfl, blk_cell (blk_new v _) 1 _ rfl⟩
  | j + 1 => simp at hj
def adv (A : Option Addr) (k c : Nat) : Option Addr := if c = k then A else A.map fun a => a.add (k * 2)
theorem Addr.add_zero' (a : Addr) : a.add 0 = a := rfl
theorem srun_size : ∀ w, (sizeOf 24).run Try.prog w = .ok 2 w := fun w => by kernel_rfl
theorem srun_to (A : Option Addr) (n c k : Nat) (h1 : k ≤ n) (h2 : n ≤ c) (v : World) : (Instr.slice 22 (.slice A n c) none (some (.int .i64 k)) none).run Try.prog v = .ok (.slice A k c) v := by
  have hA : (if c = 0 then A else A.map fun a => a.add (0 * 2)) = A := by cases A <;> simp [Addr.add_zero']
  have hk : (k : Int) ≤ (c : Int) := by omega
  simp [Instr.slice, run_underlying Try.underlying22, Instr.sliceBounds, Instr.sliceBound, asIntOf, hk, srun_size]
  rw [if_pos (by omega)]
  have hA' : (if c = 0 then A else Option.map (fun x => x.add 0) A) = A := by cases A <;> simp [Addr.add_zero']
  rw [hA']
theorem srun_from (A : Option Addr) (n c k : Nat) (h1 : k ≤ n) (h2 : n ≤ c) (v : World) : (Instr.slice 22 (.slice A n c) (some (.int .i64 k)) none none).run Try.prog v = .ok (.slice (adv A k c) (n - k) (c - k)) v := by
  have hk : (k : Int) ≤ (n : Int) := by omega
  simp [Instr.slice, run_underlying Try.underlying22, Instr.sliceBounds, Instr.sliceBound, asIntOf, hk, srun_size]
  rw [if_pos h1]
  rfl
theorem RowsAt.upto {A : Option Addr} {n c k : Nat} {w : World} {xs : List (Int × Int)} (h : PairsAt w (.slice A n c) xs) (hk : k ≤ xs.length) : PairsAt w (.slice A k c) (xs.take k) := by
  obtain ⟨hn, hc⟩ := h.rows.len
  have := h.rows.part 0 k (by omega) hk A c (by omega) (fun _ => by cases A <;> simp)
  simpa using this.pairs
theorem RowsAt.onward {A : Option Addr} {n c k : Nat} {w : World} {xs : List (Int × Int)} (h : PairsAt w (.slice A n c) xs) (hk : k ≤ xs.length) : PairsAt w (.slice (adv A k c) (n - k) (c - k)) (xs.drop k) := by
  obtain ⟨hn, hc⟩ := h.rows.len
  have := h.rows.part k xs.length hk (Nat.le_refl _) (adv A k c) (c - k) (by omega) (fun hlt => by
    obtain ⟨A', c', hv, _, hA⟩ := h
    simp only [Value.slice.injEq] at hv
    obtain ⟨rfl, _, rfl⟩ := hv
    obtain ⟨b, o, rfl, _⟩ := hA (by omega)
    unfold adv
    rw [if_neg (by omega)]
    simp [Addr.add_lit])
  rw [hn]
  simpa [List.take_of_length_le] using this.pairs
theorem sconcat_T (W : World) (s0 s2 : Value) (b1 : Nat) (t : Int × Int) (xs zs : List (Int × Int)) (h0 : PairsAt W s0 xs) (h2 : PairsAt W s2 zs) (n0 : xs.length ≤ 10000) (n2 : zs.length ≤ 10000) (b : Nat) (v : World) (hb : v.heap[b]? = some (.cells #[s0, .slice (some ⟨b1, 0, none⟩) 1 1, s2] 22 (0, 0))) (h1 : PairsAt v (.slice (some ⟨b1, 0, none⟩) 1 1) [t]) (hx : Ext W v) :
    Calls Try.prog 19 #[.slice (some ⟨b, 0, none⟩) 3 3] v fun e w' => ∃ x, e = .returned x ∧ TOut W (xs ++ [t] ++ zs) x w' :=
  (sconcat_any b s0 _ s2 xs [t] zs _ _ v hb (h0.ext hx) h1 (h2.ext hx) n0 (by simp) n2).mono fun _ _ ⟨u, he, ho, hx'⟩ => ⟨u, he, ho.pairs, hx.trans hx', fun k hk => Nat.le_trans hx.size (OwnRows.lt ho k hk).1⟩
theorem smay_eq (v : Value) (xs : List (Int × Int)) (b : Bool) (hb : decide (Sl.May xs) = b) (w : World) (h : PairsAt w v xs) (hn : xs.length ≤ 1000000) (hr : ∀ p ∈ xs, i64ok p.1 ∧ i64ok p.2) :
    Calls Try.prog 12 #[v] w fun e w' => e = .returned (.bool b) ∧ Ext w w' := by subst hb; exact smay_any v xs w h hn hr
theorem Sl.ins_mem {l : List (Int × Int)} {t p : Int × Int} (h : p ∈ Sl.ins l t) : p ∈ l ∨ p = t := by
  unfold Sl.ins at h
  simp only [List.mem_append, List.mem_singleton] at h
  rcases h with (h | h) | h
  · exact .inl (List.mem_of_mem_take h)
  · exact .inr h
  · exact .inl (List.mem_of_mem_drop h)
theorem Sl.ins_i64 {l : List (Int × Int)} {t : Int × Int} (h : ∀ p ∈ l, i64ok p.1 ∧ i64ok p.2) (ht : i64ok t.1 ∧ i64ok t.2) : ∀ p ∈ Sl.ins l t, i64ok p.1 ∧ i64ok p.2 := by
  intro p hp
  rcases Sl.ins_mem hp with h' | rfl
  · exact h p h'
  · exact ht
theorem Sl.ins_len (l : List (Int × Int)) (t : Int × Int) : (Sl.ins l t).length = l.length + 1 := by
  have := Sl.at_le l t
  unfold Sl.ins
  rw [List.length_append, List.length_append, List.length_take, List.length_drop, List.length_singleton]
  omega
set_option maxRecDepth 100000 in
set_option maxHeartbeats 1000000 in
theorem sput_any (v : Value) (xs : List (Int × Int)) (t0 t1 : Int) (w : World) (h : PairsAt w v xs) (hn : xs.length ≤ 9000) (hr : ∀ p ∈ xs, i64ok p.1 ∧ i64ok p.2) (ht : i64ok t0 ∧ i64ok t1) (ok : Bool) (hok : decide (Sl.May (Sl.ins xs (t0, t1))) = ok) :
    Calls Try.prog 8 #[v, .agg #[.int .i64 t0, .int .i64 t1]] w fun e w' => ∃ u, e = .returned (.tuple #[u, .bool ok]) ∧ PairsAt w' u (if ok then Sl.ins xs (t0, t1) else []) ∧ Ext w w' ∧ ∀ k, u.ownBlock = some k → w.heap.size ≤ k := by
  have H := Lib.hid h
  obtain ⟨A, c, rfl, hc, hA⟩ := h
  have HA := Lib.hid hA
  have HR := Lib.hid hr
  have HT := Lib.hid ht
  have HOK := Lib.hid hok
  clear hr ht hA hok
  go_enter Try.func8, Try.ntmps8
  go_wp2
  go_loopw [6] (fun i wr => ∃ k : Nat, k ≤ xs.length ∧ i = .int .i64 k ∧ k ≤ Sl.at xs (t0, t1) ∧ Ext (w.alloc (.cells #[.int .i64 t0, .int .i64 t1] 24)) wr) (fun i _ => xs.length - (intOf i).toNat)
  case atStart => exact ⟨0, by omega, rfl, by omega, Ext.refl _⟩
  case round =>
    obtain ⟨k, hk, rfl, hat, hx⟩ := hrel
    have HAT := Lib.hid hat
    have HX := Lib.hid hx
    have HXW : Hid (Ext w wr) := Lib.hid (((Ext.refl w).alloc _).trans hx)
    clear hat hx
    by_cases hlt : k < xs.length
    · obtain ⟨b, o, rfl, hb, hcc⟩ := HA.out (by omega)
      have HB := Lib.hid hb
      have HC := Lib.hid (hcc k _ (List.getElem?_eq_getElem hlt))
      have HQ := Lib.hid (List.getElem?_eq_getElem hlt)
      clear hcc hb
      generalize xs[k] = p at *
      obtain ⟨p0, p1⟩ := p
      simp only at HC
      have K0 : ∀ v, Ext wr v → v.cell? ⟨b, o + k * 2, none⟩ = some (.int .i64 p0) := fun v hv => by rw [Below.cell (HXW.out.trans hv) HB.out]; exact HC.out.1
      have K1 : ∀ v, Ext wr v → v.cell? ⟨b, o + k * 2 + 1, none⟩ = some (.int .i64 p1) := fun v hv => by rw [Below.cell (HXW.out.trans hv) HB.out]; exact HC.out.2
      have K2 : ∀ v, Ext wr v → v.cell? ⟨w.heap.size, 0, none⟩ = some (.int .i64 t0) := fun v hv => Ext.box (HX.out.trans hv) 0 _ rfl
      have K3 : ∀ v, Ext wr v → v.cell? ⟨w.heap.size, 1, none⟩ = some (.int .i64 t1) := fun v hv => Ext.box (HX.out.trans hv) 1 _ rfl
      cases hl : decide (Sl.lt (p0, p1) (t0, t1)) with
      | true =>
        have HL := Lib.hid hl
        clear hl
        go_wp2
        refine region_all (fun v => Ext wr v) (by kernel_rfl) (Ext.refl _).drew ?_
        refine all_take (i := 0) (v := ?_) rfl (by kernel_rfl) (by kernel_rfl) (by kernel_rfl) (fun _ _ _ h => h) (Tame.yes (by kernel_rfl) fun w hS => ?_) ?_
        rotate_left 1
        · skip
          go_simp
          refine gives_mk ?_ hS
          with_reducible rfl
        refine all_take (i := 1) (v := ?_) rfl (by kernel_rfl) (by kernel_rfl) (by kernel_rfl) (fun _ _ _ h => h) (Tame.yes (by kernel_rfl) fun w hS => ?_) ?_
        rotate_left 1
        · skip
          go_simp
          refine gives_mk ?_ hS
          with_reducible rfl
        refine all_take (i := 2) (v := ?_) rfl (by kernel_rfl) (by kernel_rfl) (by kernel_rfl) (fun _ _ _ h => h) (Tame.yes (by kernel_rfl) fun w hS => ?_) ?_
        rotate_left 1
        · skip
          go_simp
          refine gives_mk ?_ hS
          with_reducible rfl
        refine all_take (i := 3) (v := ?_) rfl (by kernel_rfl) (by kernel_rfl) (by kernel_rfl) (fun _ _ _ h => h) (Tame.yes (by kernel_rfl) fun w hS => ?_) ?_
        rotate_left 1
        · skip
          go_simp
          refine gives_mk ?_ hS
          with_reducible rfl
        refine all_take (i := 4) (v := ?_) rfl (by kernel_rfl) (by kernel_rfl) (by kernel_rfl) (fun _ _ _ h => h) (Tame.yes (by kernel_rfl) fun w hS => ?_) ?_
        rotate_left 1
        · skip
          go_simp
          refine gives_mk ?_ hS
          with_reducible rfl
        refine all_take (i := 5) (v := ?_) rfl (by kernel_rfl) (by kernel_rfl) (by kernel_rfl) (fun _ _ _ h => h) (Tame.yes (by kernel_rfl) fun w hS => ?_) ?_
        rotate_left 1
        · skip
          go_simp
          refine gives_mk ?_ hS
          with_reducible rfl
        refine all_take (i := 6) (v := ?_) rfl (by kernel_rfl) (by kernel_rfl) (by kernel_rfl) (fun _ _ _ h => h) (Tame.yes (by kernel_rfl) fun w hS => ?_) ?_
        rotate_left 1
        · skip
          go_simp
          refine gives_mk ?_ hS
          with_reducible rfl
        refine all_take (i := 7) (v := ?_) rfl (by kernel_rfl) (by kernel_rfl) (by kernel_rfl) (fun _ _ _ h => h) (Tame.yes (by kernel_rfl) fun w hS => ?_) ?_
        rotate_left 1
        · skip
          go_simp
          refine gives_mk ?_ hS
          with_reducible rfl
        refine all_take (i := 8) (v := ?_) rfl (by kernel_rfl) (by kernel_rfl) (by kernel_rfl) (fun _ _ _ h => h) (Tame.yes (by kernel_rfl) fun w hS => ?_) ?_
        rotate_left 1
        · skip
          go_simp
          refine gives_mk ?_ hS
          with_reducible rfl
        refine all_take (i := 9) (v := ?_) rfl (by kernel_rfl) (by kernel_rfl) (by kernel_rfl) (fun _ _ _ h => h) (Tame.yes (by kernel_rfl) fun w hS => ?_) ?_
        rotate_left 1
        · skip
          go_simp
          refine gives_mk ?_ hS
          with_reducible rfl
        refine all_take (i := 10) (v := .bool true) rfl (by kernel_rfl) (by kernel_rfl) (by kernel_rfl) (fun _ _ _ h => h) (Tame.yes (by kernel_rfl) fun w hS => ?_) ?_
        · go_simp
          refine gives_call ((before_eq p0 p1 t0 t1 true HL.out _).mono ?_)
          exact fun r w2 ⟨he, hx⟩ => ⟨he, hS.trans hx⟩
        refine all_take (i := 11) (v := ?_) rfl (by kernel_rfl) (by kernel_rfl) (by kernel_rfl) (fun _ _ _ h => h) (Tame.yes (by kernel_rfl) fun w hS => ?_) ?_
        rotate_left 1
        · skip
          go_simp
          refine gives_mk ?_ hS
          with_reducible rfl
        refine all_done (by kernel_rfl) ?_ _
        intro w2 hx2
        have HX2 := Lib.hid (HX.out.trans hx2)
        clear hx2 K0 K1 K2 K3
        go_simp
        go_wp2
        go_roundw
        case rel => exact ⟨k + 1, by omega, by go_num, Sl.at_next HAT.out HQ.out (of_decide_eq_true HL.out), HX2.out⟩
        case measure => simp [intOf]; omega
      | false =>
        have HL := Lib.hid hl
        have HK : Hid (k = Sl.at xs (t0, t1)) := Lib.hid (Sl.at_eq HAT.out fun q hq => by rw [HQ.out] at hq; cases hq; exact of_decide_eq_false HL.out)
        clear hl
        go_wp2
        refine region_all (fun v => Ext wr v) (by kernel_rfl) (Ext.refl _).drew ?_
        refine all_take (i := 0) (v := ?_) rfl (by kernel_rfl) (by kernel_rfl) (by kernel_rfl) (fun _ _ _ h => h) (Tame.yes (by kernel_rfl) fun w hS => ?_) ?_
        rotate_left 1
        · skip
          go_simp
          refine gives_mk ?_ hS
          with_reducible rfl
        refine all_take (i := 1) (v := ?_) rfl (by kernel_rfl) (by kernel_rfl) (by kernel_rfl) (fun _ _ _ h => h) (Tame.yes (by kernel_rfl) fun w hS => ?_) ?_
        rotate_left 1
        · skip
          go_simp
          refine gives_mk ?_ hS
          with_reducible rfl
        refine all_take (i := 2) (v := ?_) rfl (by kernel_rfl) (by kernel_rfl) (by kernel_rfl) (fun _ _ _ h => h) (Tame.yes (by kernel_rfl) fun w hS => ?_) ?_
        rotate_left 1
        · skip
          go_simp
          refine gives_mk ?_ hS
          with_reducible rfl
        refine all_take (i := 3) (v := ?_) rfl (by kernel_rfl) (by kernel_rfl) (by kernel_rfl) (fun _ _ _ h => h) (Tame.yes (by kernel_rfl) fun w hS => ?_) ?_
        rotate_left 1
        · skip
          go_simp
          refine gives_mk ?_ hS
          with_reducible rfl
        refine all_take (i := 4) (v := ?_) rfl (by kernel_rfl) (by kernel_rfl) (by kernel_rfl) (fun _ _ _ h => h) (Tame.yes (by kernel_rfl) fun w hS => ?_) ?_
        rotate_left 1
        · skip
          go_simp
          refine gives_mk ?_ hS
          with_reducible rfl
        refine all_take (i := 5) (v := ?_) rfl (by kernel_rfl) (by kernel_rfl) (by kernel_rfl) (fun _ _ _ h => h) (Tame.yes (by kernel_rfl) fun w hS => ?_) ?_
        rotate_left 1
        · skip
          go_simp
          refine gives_mk ?_ hS
          with_reducible rfl
        refine all_take (i := 6) (v := ?_) rfl (by kernel_rfl) (by kernel_rfl) (by kernel_rfl) (fun _ _ _ h => h) (Tame.yes (by kernel_rfl) fun w hS => ?_) ?_
        rotate_left 1
        · skip
          go_simp
          refine gives_mk ?_ hS
          with_reducible rfl
        refine all_take (i := 7) (v := ?_) rfl (by kernel_rfl) (by kernel_rfl) (by kernel_rfl) (fun _ _ _ h => h) (Tame.yes (by kernel_rfl) fun w hS => ?_) ?_
        rotate_left 1
        · skip
          go_simp
          refine gives_mk ?_ hS
          with_reducible rfl
        refine all_take (i := 8) (v := ?_) rfl (by kernel_rfl) (by kernel_rfl) (by kernel_rfl) (fun _ _ _ h => h) (Tame.yes (by kernel_rfl) fun w hS => ?_) ?_
        rotate_left 1
        · skip
          go_simp
          refine gives_mk ?_ hS
          with_reducible rfl
        refine all_take (i := 9) (v := ?_) rfl (by kernel_rfl) (by kernel_rfl) (by kernel_rfl) (fun _ _ _ h => h) (Tame.yes (by kernel_rfl) fun w hS => ?_) ?_
        rotate_left 1
        · skip
          go_simp
          refine gives_mk ?_ hS
          with_reducible rfl
        refine all_take (i := 10) (v := .bool false) rfl (by kernel_rfl) (by kernel_rfl) (by kernel_rfl) (fun _ _ _ h => h) (Tame.yes (by kernel_rfl) fun w hS => ?_) ?_
        · go_simp
          refine gives_call ((before_eq p0 p1 t0 t1 false HL.out _).mono ?_)
          exact fun r w2 ⟨he, hx⟩ => ⟨he, hS.trans hx⟩
        refine all_take (i := 11) (v := ?_) rfl (by kernel_rfl) (by kernel_rfl) (by kernel_rfl) (fun _ _ _ h => h) (Tame.yes (by kernel_rfl) fun w hS => ?_) ?_
        rotate_left 1
        · skip
          go_simp
          refine gives_mk ?_ hS
          with_reducible rfl
        refine all_done (by kernel_rfl) ?_ _
        intro w2 hx2
        have HX2 := Lib.hid (HX.out.trans hx2)
        clear hx2 K0 K1 K2 K3
        go_simp
        go_wp2
        refine region_g 99 (fun v => Ext w2 v) (fun v => Ext w2 v) (by kernel_rfl) (Ext.refl _).drew ?_
        have HG : ∀ (l : Array Bool) v, Ext w2 v → l.getD 99 false = false → Ext w2 v := fun _ _ h _ => h
        have K2 : ∀ v, Ext w2 v → v.cell? ⟨w.heap.size, 0, none⟩ = some (.int .i64 t0) := fun v hv => Ext.box (HX2.out.trans hv) 0 _ rfl
        have K3 : ∀ v, Ext w2 v → v.cell? ⟨w.heap.size, 1, none⟩ = some (.int .i64 t1) := fun v hv => Ext.box (HX2.out.trans hv) 1 _ rfl
        have S1 := srun_to (some ⟨b, o, none⟩) xs.length c k hk hc
        have S2 := srun_from (some ⟨b, o, none⟩) xs.length c k hk hc
        refine g_take (HG _) (i := 0) (v := ?_) rfl (by kernel_rfl) (by kernel_rfl) (by kernel_rfl) (by kernel_rfl) (by kernel_rfl) (fun _ _ _ h => h) (Still.yes (by kernel_rfl) fun w hS => ?_) ?_
        rotate_left 1
        · skip
          go_simp
          refine gives_mk ?_ rfl
          with_reducible rfl
        refine g_take (HG _) (i := 1) (v := ?_) rfl (by kernel_rfl) (by kernel_rfl) (by kernel_rfl) (by kernel_rfl) (by kernel_rfl) (fun _ _ _ h => h) (Still.yes (by kernel_rfl) fun w hS => ?_) ?_
        rotate_left 1
        · skip
          go_simp
          refine gives_mk ?_ rfl
          with_reducible rfl
        refine g_take (HG _) (i := 2) (v := ?_) rfl (by kernel_rfl) (by kernel_rfl) (by kernel_rfl) (by kernel_rfl) (by kernel_rfl) (fun _ _ _ h => h) (Still.yes (by kernel_rfl) fun w hS => ?_) ?_
        rotate_left 1
        · skip
          go_simp
          refine gives_mk ?_ rfl
          with_reducible rfl
        refine g_take (HG _) (i := 3) (v := ?_) rfl (by kernel_rfl) (by kernel_rfl) (by kernel_rfl) (by kernel_rfl) (by kernel_rfl) (fun _ _ _ h => h) (Still.yes (by kernel_rfl) fun w hS => ?_) ?_
        rotate_left 1
        · skip
          go_simp
          refine gives_mk ?_ rfl
          with_reducible rfl
        refine g_take (HG _) (i := 5) (v := ?_) rfl (by kernel_rfl) (by kernel_rfl) (by kernel_rfl) (by kernel_rfl) (by kernel_rfl) (fun _ _ _ h => h) (Still.yes (by kernel_rfl) fun w hS => ?_) ?_
        rotate_left 1
        · skip
          go_simp
          refine gives_mk ?_ rfl
          with_reducible rfl
        refine g_take (HG _) (i := 6) (v := ?_) rfl (by kernel_rfl) (by kernel_rfl) (by kernel_rfl) (by kernel_rfl) (by kernel_rfl) (fun _ _ _ h => h) (Still.yes (by kernel_rfl) fun w hS => ?_) ?_
        rotate_left 1
        · skip
          go_simp
          refine gives_mk ?_ rfl
          with_reducible rfl
        refine g_take (HG _) (i := 7) (v := ?_) rfl (by kernel_rfl) (by kernel_rfl) (by kernel_rfl) (by kernel_rfl) (by kernel_rfl) (fun _ _ _ h => h) (Still.yes (by kernel_rfl) fun w hS => ?_) ?_
        rotate_left 1
        · skip
          go_simp
          refine gives_mk ?_ rfl
          with_reducible rfl
        refine g_turn (TBox w2 (t0, t1)) (k := 4) (by kernel_rfl) (fun _ _ h _ => h.x) (fun v hv => ?_)
        refine at_value rfl (by kernel_rfl) (by go_simp; exact ⟨_, _, ⟨rfl, rfl⟩, v.heap.size, rfl, pairs_one v t0 t1, hv.alloc _⟩) ?_
        rintro u ⟨_, b4, rfl, _⟩
        refine g_turn (TThree w2 (.slice (some ⟨b, o, none⟩) k c) (.slice (some ⟨b4, 0, none⟩) 1 1) (.slice (adv (some ⟨b, o, none⟩) k c) (xs.length - k) (c - k)) (t0, t1)) (k := 8) (by kernel_rfl) (fun _ _ h _ => h.x) (fun v hv => ?_)
        obtain ⟨b4', hb4, hP4, hvx⟩ := hv
        simp only [Value.slice.injEq, Option.some.injEq, Addr.mk.injEq, and_true] at hb4
        subst hb4
        refine at_value rfl (by kernel_rfl) (by go_simp; exact ⟨_, _, ⟨rfl, rfl⟩, v.heap.size, rfl, blk_new v _, hP4.ext ((Ext.refl v).alloc _), hvx.alloc _⟩) ?_
        clear hP4 hvx
        rintro u ⟨_, b8, rfl, _⟩
        refine g_turn (TOut w2 (Sl.ins xs (t0, t1))) (k := 9) (by kernel_rfl) (fun _ _ h _ => h.2.1) (fun v hv => ?_)
        obtain ⟨b8', hb8, hP8, hP4, hvx⟩ := hv
        simp only [Value.slice.injEq, Option.some.injEq, Addr.mk.injEq, and_true] at hb8
        subst hb8
        refine at_call (S := fun _ => True) rfl (by kernel_rfl) (by go_simp; (try exact ⟨rfl, rfl⟩)) ?_ ?_
        · have hc := sconcat_T w2 _ _ b4 (t0, t1) (xs.take k) (xs.drop k) (RowsAt.upto (H.out.ext ((((Ext.refl w).alloc _)).trans HX2.out)) hk) (RowsAt.onward (H.out.ext ((((Ext.refl w).alloc _)).trans HX2.out)) hk) (by rw [List.length_take]; omega) (by rw [List.length_drop]; omega) b8 v hP8 hP4 hvx
          have hi : Sl.ins xs (t0, t1) = xs.take k ++ [(t0, t1)] ++ xs.drop k := by unfold Sl.ins; rw [← HK.out]
          rw [hi]
          exact hc
        rintro u ⟨_, hT⟩
        obtain ⟨A9, c9, rfl, _⟩ := hT.1.rows.form
        clear hT
        replace HG : ∀ (l : Array Bool) v, TOut w2 (Sl.ins xs (t0, t1)) (.slice A9 (Sl.ins xs (t0, t1)).length c9) v → l.getD 99 false = false → Ext w2 v := fun _ _ h _ => h.2.1
        refine g_free (HG _) (i := 10) (v := ?_) rfl (by kernel_rfl) (by kernel_rfl) (by kernel_rfl) (by kernel_rfl) (fun _ _ _ h => h) (Still.yes (by kernel_rfl) fun w hS => ?_) ?_
        rotate_left 1
        · skip
          go_simp
          refine gives_mk ?_ rfl
          with_reducible rfl
        refine g_done (by kernel_rfl) ?_ _
        intro w5 hw5
        have HP5 := Lib.hid hw5.1
        have HX5 : Hid (Ext w w5) := Lib.hid (((Ext.refl w).alloc _).trans (HX2.out.trans hw5.2.1))
        have HNB : Hid (∀ k, (Value.slice A9 (Sl.ins xs (t0, t1)).length c9).ownBlock = some k → w.heap.size ≤ k) := Lib.hid fun k hk => Nat.le_trans (((Ext.refl w).alloc _).trans HX2.out).size (hw5.2.2 k hk)
        clear hw5 HG K2 K3 S1 S2
        go_simp
        go_wp2_with fail
        refine (smay_eq _ (Sl.ins xs (t0, t1)) ok HOK.out _ HP5.out (by rw [Sl.ins_len]; omega) (Sl.ins_i64 HR.out HT.out)).mono ?_
        rintro r w6 ⟨rfl, hx6⟩
        have HX6 := Lib.hid (HX5.out.trans hx6)
        have HP6 := Lib.hid (HP5.out.ext hx6)
        clear hx6 HOK
        cases ok
        · go_wp2
          go_ret2
          exact ⟨_, rfl, ⟨none, 0, rfl, Nat.le_refl _, fun h => by simp at h⟩, HX6.out, fun k h => by simp [Value.ownBlock] at h⟩
        · go_wp2
          go_ret2
          exact ⟨_, rfl, HP6.out, HX6.out, HNB.out⟩
    · have HK : Hid (k = Sl.at xs (t0, t1)) := Lib.hid (Sl.at_eq HAT.out fun q hq => by rw [List.getElem?_eq_none (by omega)] at hq; cases hq)
      go_wp2
      refine region_all (fun v => Ext wr v) (by kernel_rfl) (Ext.refl _).drew ?_
      refine all_take (i := 0) (v := ?_) rfl (by kernel_rfl) (by kernel_rfl) (by kernel_rfl) (fun _ _ _ h => h) (Tame.yes (by kernel_rfl) fun w hS => ?_) ?_
      rotate_left 1
      · skip
        go_simp
        refine gives_mk ?_ hS
        with_reducible rfl
      refine all_take (i := 1) (v := ?_) rfl (by kernel_rfl) (by kernel_rfl) (by kernel_rfl) (fun _ _ _ h => h) (Tame.yes (by kernel_rfl) fun w hS => ?_) ?_
      rotate_left 1
      · skip
        go_simp
        refine gives_mk ?_ hS
        with_reducible rfl
      refine all_take (i := 2) (v := ?_) rfl (by kernel_rfl) (by kernel_rfl) (by kernel_rfl) (fun _ _ _ h => h) (Tame.yes (by kernel_rfl) fun w hS => ?_) ?_
      rotate_left 1
      · skip
        go_simp
        refine gives_mk ?_ hS
        with_reducible rfl
      refine all_take (i := 3) (v := ?_) rfl (by kernel_rfl) (by kernel_rfl) (by kernel_rfl) (fun _ _ _ h => h) (Tame.yes (by kernel_rfl) fun w hS => ?_) ?_
      rotate_left 1
      · skip
        go_simp
        refine gives_mk ?_ hS
        with_reducible rfl
      refine all_take (i := 4) (v := ?_) rfl (by kernel_rfl) (by kernel_rfl) (by kernel_rfl) (fun _ _ _ h => h) (Tame.yes (by kernel_rfl) fun w hS => ?_) ?_
      rotate_left 1
      · skip
        go_simp
        refine gives_mk ?_ hS
        with_reducible rfl
      refine all_take (i := 5) rfl (by kernel_rfl) (by kernel_rfl) (by kernel_rfl) (fun _ _ _ h => h) (Tame.no (by kernel_rfl)) ?_
      refine all_take (i := 6) rfl (by kernel_rfl) (by kernel_rfl) (by kernel_rfl) (fun _ _ _ h => h) (Tame.no (by kernel_rfl)) ?_
      refine all_take (i := 7) rfl (by kernel_rfl) (by kernel_rfl) (by kernel_rfl) (fun _ _ _ h => h) (Tame.no (by kernel_rfl)) ?_
      refine all_take (i := 8) rfl (by kernel_rfl) (by kernel_rfl) (by kernel_rfl) (fun _ _ _ h => h) (Tame.no (by kernel_rfl)) ?_
      refine all_take (i := 9) rfl (by kernel_rfl) (by kernel_rfl) (by kernel_rfl) (fun _ _ _ h => h) (Tame.no (by kernel_rfl)) ?_
      refine all_take (i := 10) rfl (by kernel_rfl) (by kernel_rfl) (by kernel_rfl) (fun _ _ _ h => h) (Tame.no (by kernel_rfl)) ?_
      refine all_take (i := 11) (v := ?_) rfl (by kernel_rfl) (by kernel_rfl) (by kernel_rfl) (fun _ _ _ h => h) (Tame.yes (by kernel_rfl) fun w hS => ?_) ?_
      rotate_left 1
      · skip
        go_simp
        refine gives_mk ?_ hS
        with_reducible rfl
      refine all_done (by kernel_rfl) ?_ _
      intro w2 hx2
      have HX2 := Lib.hid (HX.out.trans hx2)
      clear hx2
      go_simp
      go_wp2
      refine region_g 99 (fun v => Ext w2 v) (fun v => Ext w2 v) (by kernel_rfl) (Ext.refl _).drew ?_
      have HG : ∀ (l : Array Bool) v, Ext w2 v → l.getD 99 false = false → Ext w2 v := fun _ _ h _ => h
      have K2 : ∀ v, Ext w2 v → v.cell? ⟨w.heap.size, 0, none⟩ = some (.int .i64 t0) := fun v hv => Ext.box (HX2.out.trans hv) 0 _ rfl
      have K3 : ∀ v, Ext w2 v → v.cell? ⟨w.heap.size, 1, none⟩ = some (.int .i64 t1) := fun v hv => Ext.box (HX2.out.trans hv) 1 _ rfl
      have S1 := srun_to A xs.length c k hk hc
      have S2 := srun_from A xs.length c k hk hc
      refine g_take (HG _) (i := 0) (v := ?_) rfl (by kernel_rfl) (by kernel_rfl) (by kernel_rfl) (by kernel_rfl) (by kernel_rfl) (fun _ _ _ h => h) (Still.yes (by kernel_rfl) fun w hS => ?_) ?_
      rotate_left 1
      · skip
        go_simp
        refine gives_mk ?_ rfl
        with_reducible rfl
      refine g_take (HG _) (i := 1) (v := ?_) rfl (by kernel_rfl) (by kernel_rfl) (by kernel_rfl) (by kernel_rfl) (by kernel_rfl) (fun _ _ _ h => h) (Still.yes (by kernel_rfl) fun w hS => ?_) ?_
      rotate_left 1
      · skip
        go_simp
        refine gives_mk ?_ rfl
        with_reducible rfl
      refine g_take (HG _) (i := 2) (v := ?_) rfl (by kernel_rfl) (by kernel_rfl) (by kernel_rfl) (by kernel_rfl) (by kernel_rfl) (fun _ _ _ h => h) (Still.yes (by kernel_rfl) fun w hS => ?_) ?_
      rotate_left 1
      · skip
        go_simp
        refine gives_mk ?_ rfl
        with_reducible rfl
      refine g_take (HG _) (i := 3) (v := ?_) rfl (by kernel_rfl) (by kernel_rfl) (by kernel_rfl) (by kernel_rfl) (by kernel_rfl) (fun _ _ _ h => h) (Still.yes (by kernel_rfl) fun w hS => ?_) ?_
      rotate_left 1
      · skip
        go_simp
        refine gives_mk ?_ rfl
        with_reducible rfl
      refine g_take (HG _) (i := 5) (v := ?_) rfl (by kernel_rfl) (by kernel_rfl) (by kernel_rfl) (by kernel_rfl) (by kernel_rfl) (fun _ _ _ h => h) (Still.yes (by kernel_rfl) fun w hS => ?_) ?_
      rotate_left 1
      · skip
        go_simp
        refine gives_mk ?_ rfl
        with_reducible rfl
      refine g_take (HG _) (i := 6) (v := ?_) rfl (by kernel_rfl) (by kernel_rfl) (by kernel_rfl) (by kernel_rfl) (by kernel_rfl) (fun _ _ _ h => h) (Still.yes (by kernel_rfl) fun w hS => ?_) ?_
      rotate_left 1
      · skip
        go_simp
        refine gives_mk ?_ rfl
        with_reducible rfl
      refine g_take (HG _) (i := 7) (v := ?_) rfl (by kernel_rfl) (by kernel_rfl) (by kernel_rfl) (by kernel_rfl) (by kernel_rfl) (fun _ _ _ h => h) (Still.yes (by kernel_rfl) fun w hS => ?_) ?_
      rotate_left 1
      · skip
        go_simp
        refine gives_mk ?_ rfl
        with_reducible rfl
      refine g_turn (TBox w2 (t0, t1)) (k := 4) (by kernel_rfl) (fun _ _ h _ => h.x) (fun v hv => ?_)
      refine at_value rfl (by kernel_rfl) (by go_simp; exact ⟨_, _, ⟨rfl, rfl⟩, v.heap.size, rfl, pairs_one v t0 t1, hv.alloc _⟩) ?_
      rintro u ⟨_, b4, rfl, _⟩
      refine g_turn (TThree w2 (.slice A k c) (.slice (some ⟨b4, 0, none⟩) 1 1) (.slice (adv A k c) (xs.length - k) (c - k)) (t0, t1)) (k := 8) (by kernel_rfl) (fun _ _ h _ => h.x) (fun v hv => ?_)
      obtain ⟨b4', hb4, hP4, hvx⟩ := hv
      simp only [Value.slice.injEq, Option.some.injEq, Addr.mk.injEq, and_true] at hb4
      subst hb4
      refine at_value rfl (by kernel_rfl) (by go_simp; exact ⟨_, _, ⟨rfl, rfl⟩, v.heap.size, rfl, blk_new v _, hP4.ext ((Ext.refl v).alloc _), hvx.alloc _⟩) ?_
      clear hP4 hvx
      rintro u ⟨_, b8, rfl, _⟩
      refine g_turn (TOut w2 (Sl.ins xs (t0, t1))) (k := 9) (by kernel_rfl) (fun _ _ h _ => h.2.1) (fun v hv => ?_)
      obtain ⟨b8', hb8, hP8, hP4, hvx⟩ := hv
      simp only [Value.slice.injEq, Option.some.injEq, Addr.mk.injEq, and_true] at hb8
      subst hb8
      refine at_call (S := fun _ => True) rfl (by kernel_rfl) (by go_simp; (try exact ⟨rfl, rfl⟩)) ?_ ?_
      · have hc := sconcat_T w2 _ _ b4 (t0, t1) (xs.take k) (xs.drop k) (RowsAt.upto (H.out.ext ((((Ext.refl w).alloc _)).trans HX2.out)) hk) (RowsAt.onward (H.out.ext ((((Ext.refl w).alloc _)).trans HX2.out)) hk) (by rw [List.length_take]; omega) (by rw [List.length_drop]; omega) b8 v hP8 hP4 hvx
        have hi : Sl.ins xs (t0, t1) = xs.take k ++ [(t0, t1)] ++ xs.drop k := by unfold Sl.ins; rw [← HK.out]
        rw [hi]
        exact hc
      rintro u ⟨_, hT⟩
      obtain ⟨A9, c9, rfl, _⟩ := hT.1.rows.form
      clear hT
      replace HG : ∀ (l : Array Bool) v, TOut w2 (Sl.ins xs (t0, t1)) (.slice A9 (Sl.ins xs (t0, t1)).length c9) v → l.getD 99 false = false → Ext w2 v := fun _ _ h _ => h.2.1
      refine g_free (HG _) (i := 10) (v := ?_) rfl (by kernel_rfl) (by kernel_rfl) (by kernel_rfl) (by kernel_rfl) (fun _ _ _ h => h) (Still.yes (by kernel_rfl) fun w hS => ?_) ?_
      rotate_left 1
      · skip
        go_simp
        refine gives_mk ?_ rfl
        with_reducible rfl
      refine g_done (by kernel_rfl) ?_ _
      intro w5 hw5
      have HP5 := Lib.hid hw5.1
      have HX5 : Hid (Ext w w5) := Lib.hid (((Ext.refl w).alloc _).trans (HX2.out.trans hw5.2.1))
      have HNB : Hid (∀ k, (Value.slice A9 (Sl.ins xs (t0, t1)).length c9).ownBlock = some k → w.heap.size ≤ k) := Lib.hid fun k hk => Nat.le_trans (((Ext.refl w).alloc _).trans HX2.out).size (hw5.2.2 k hk)
      clear hw5 HG K2 K3 S1 S2
      go_simp
      go_wp2_with fail
      refine (smay_eq _ (Sl.ins xs (t0, t1)) ok HOK.out _ HP5.out (by rw [Sl.ins_len]; omega) (Sl.ins_i64 HR.out HT.out)).mono ?_
      rintro r w6 ⟨rfl, hx6⟩
      have HX6 := Lib.hid (HX5.out.trans hx6)
      have HP6 := Lib.hid (HP5.out.ext hx6)
      clear hx6 HOK
      cases ok
      · go_wp2
        go_ret2
        exact ⟨_, rfl, ⟨none, 0, rfl, Nat.le_refl _, fun h => by simp at h⟩, HX6.out, fun k h => by simp [Value.ownBlock] at h⟩
      · go_wp2
        go_ret2
        exact ⟨_, rfl, HP6.out, HX6.out, HNB.out⟩

end Go.Proofs.Ytonnpmgnbmbooaa
