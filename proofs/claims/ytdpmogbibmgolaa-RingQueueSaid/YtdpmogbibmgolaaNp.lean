/-
  The walk of the statement RingQueue.
-/
import Derived.Test.YtdpmogbibmgolaaNo
set_option linter.unusedVariables false
set_option linter.unusedSimpArgs false
namespace Go.Proofs.Ytdpmogbibmgolaa
open Go.RowKit
def advI (A : Option Addr) (c : Nat) : Option Addr := if c = 1 then A else A.map fun a => a.add 1
theorem irun_size : ∀ w, (sizeOf 3).run Try.prog w = .ok 1 w := fun w => by kernel_rfl
theorem irun_from1 (A : Option Addr) (n c : Nat) (h1 : 1 ≤ n) (h2 : n ≤ c) (v : World) : (Instr.slice 25 (.slice A n c) (some (.int .i64 1)) none none).run Try.prog v = .ok (.slice (advI A c) (n - 1) (c - 1)) v := by
  have hk : (1 : Int) ≤ (n : Int) := by omega
  simp [Instr.slice, run_underlying Try.underlying25, Instr.sliceBounds, Instr.sliceBound, asIntOf, hk, irun_size]
  rfl
theorem advI_ints {w : World} {A : Option Addr} {n c : Nat} {g : Int} {p : List Int} (h : IntsAt w (.slice A n c) (g :: p)) (hc : n ≤ c) : IntsAt w (.slice (advI A c) (n - 1) (c - 1)) p := by
  obtain ⟨A', c', hv, hA⟩ := h
  simp only [Value.slice.injEq, List.length_cons] at hv
  obtain ⟨rfl, rfl, rfl⟩ := hv
  refine ⟨_, _, rfl, fun h0 => ?_⟩
  obtain ⟨b, o, rfl, hb, hcell⟩ := hA (by simp)
  refine ⟨b, o + 1, ?_, hb, fun j x hj => ?_⟩
  · unfold advI
    rw [if_neg (by omega)]
    simp [Addr.add_lit]
  · have := hcell (j + 1) x (by simpa using hj)
    rwa [show o + 1 + j = o + (j + 1) by omega]
/-- A slice lies in a block behind B, if in any. -/
def FarI (B : Nat) (u : Value) : Prop := ∀ k, u.ownBlock = some k → B < k
theorem FarI.adv {B : Nat} {A : Option Addr} {n c n' c' : Nat} (h : FarI B (.slice A n c)) : FarI B (.slice (advI A c) n' c') := fun k hk => by
  unfold advI at hk
  split at hk
  · cases A with
    | none => cases hk
    | some a => exact h k hk
  · cases A with
    | none => cases hk
    | some a => exact h k (by simpa [Value.ownBlock, Addr.add] using hk)
theorem FarI.set {B : Nat} {w : World} {A : Option Addr} {n c : Nat} {p : List Int} (h : FarI B (.slice A n c)) {w' : World} (hi : IntsAt w (.slice A n c) p) (hu : Upd B w w') : IntsAt w' (.slice A n c) p := by
  obtain ⟨A', c', hv, hA⟩ := hi
  simp only [Value.slice.injEq] at hv
  obtain ⟨rfl, rfl, rfl⟩ := hv
  exact IntsAt.grown ⟨_, _, rfl, hA⟩ hu fun b o _ he hb => by
    subst he
    injection hb with hb
    have := h b rfl
    omega
set_option maxRecDepth 100000 in
set_option maxHeartbeats 1000000 in
theorem rqueue_out (b0 b1 b2 b3 b4 b5 b6 b7 hd nn : Int) (v : Value) (l : List Int) (w : World) (hI : IntsAt w v l) (m : Bool) (hm : Ri.may ⟨[b0, b1, b2, b3, b4, b5, b6, b7], hd, nn⟩ = m) (h : m = false ∨ (m = true ∧ 60 < l.length)) :
    Calls Try.prog 3 #[.agg #[.int .i64 b0, .int .i64 b1, .int .i64 b2, .int .i64 b3, .int .i64 b4, .int .i64 b5, .int .i64 b6, .int .i64 b7, .int .i64 hd, .int .i64 nn], v] w fun e w' => e = .returned (.bool true) ∧ Ext w w' := by
  obtain ⟨A, c, rfl, hA⟩ := hI
  have HM := Lib.hid hm
  have HB := Lib.hid (blk_new w (.cells #[.int .i64 b0, .int .i64 b1, .int .i64 b2, .int .i64 b3, .int .i64 b4, .int .i64 b5, .int .i64 b6, .int .i64 b7, .int .i64 hd, .int .i64 nn] 24))
  clear hm hA
  rcases h with rfl | ⟨rfl, h⟩
  all_goals
    go_enter Try.func3, Try.ntmps3
    go_wp2_with fail
    refine (rgfixed_yes _).mono ?_
    rintro r w1 ⟨rfl, hx1⟩
    obtain ⟨⟨q0, q1, q2, q3, q4⟩, q5, q6, q7, q8, q9⟩ := cells10 (hx1.blk HB.out)
    go_wp2_with fail
    refine (rrmay_k b0 b1 b2 b3 b4 b5 b6 b7 hd nn _ HM.out _).mono ?_
    rintro r w2 ⟨rfl, hx2⟩
    clear q0 q1 q2 q3 q4 q5 q6 q7 q8 q9
    go_wp2_with fail
    refine (rgfixed_yes _).mono ?_
    rintro r w3 ⟨rfl, hx3⟩
    go_wp2
    go_ret
    exact ⟨rfl, (((Ext.refl w).alloc _).trans hx1).trans (hx2.trans hx3)⟩
/-- The box of a ring that a region made. -/
def BoxR (w0 w : World) (u : GV) : Prop := ∃ g c0 c1 c2 c3 c4 c5 c6 c7 c8 c9, u.v = .pointer (some ⟨g, 0, none⟩) ∧ w0.heap.size ≤ g ∧ (u.s ≤ g ∧ g < u.t) ∧ w.heap[g]? = some (.cells #[c0, c1, c2, c3, c4, c5, c6, c7, c8, c9] 24 (0, 0))
theorem BoxR.ext {w0 w w' : World} {u : GV} (h : BoxR w0 w u) (hx : Ext w w') : BoxR w0 w' u := by
  obtain ⟨g, c0, c1, c2, c3, c4, c5, c6, c7, c8, c9, h1, h2, h3, h4⟩ := h
  exact ⟨g, c0, c1, c2, c3, c4, c5, c6, c7, c8, c9, h1, h2, h3, hx.blk h4⟩
theorem array10' {α : Type} {cs : Array α} (h : cs.size = 10) : ∃ c0 c1 c2 c3 c4 c5 c6 c7 c8 c9, cs = #[c0, c1, c2, c3, c4, c5, c6, c7, c8, c9] := by
  obtain ⟨l⟩ := cs
  match l, h with
  | [c0, c1, c2, c3, c4, c5, c6, c7, c8, c9], _ => exact ⟨c0, c1, c2, c3, c4, c5, c6, c7, c8, c9, rfl⟩
theorem BoxR.chg {w0 w w' : World} {u : GV} {n : Nat} {gs : List GV} (h : BoxR w0 w u) (hc : ChgIn w0 n gs w w') : BoxR w0 w' u := by
  obtain ⟨g, c0, c1, c2, c3, c4, c5, c6, c7, c8, c9, h1, h2, h3, h4⟩ := h
  obtain ⟨cs, k1, k2, _⟩ := hc.part g _ _ h4
  obtain ⟨d0, d1, d2, d3, d4, d5, d6, d7, d8, d9, rfl⟩ := array10' (cs := cs) k2
  exact ⟨g, d0, d1, d2, d3, d4, d5, d6, d7, d8, d9, h1, h2, h3, k1⟩
def HasR (w0 w : World) (u : GV) (cs : Array Value) : Prop := ∃ g, u.v = .pointer (some ⟨g, 0, none⟩) ∧ w0.heap.size ≤ g ∧ w.heap[g]? = some (.cells cs 24 (0, 0))
theorem HasR.ext {w0 w w' : World} {u : GV} {cs : Array Value} (h : HasR w0 w u cs) (hx : Ext w w') : HasR w0 w' u cs := by
  obtain ⟨g, h1, h2, h3⟩ := h
  exact ⟨g, h1, h2, hx.blk h3⟩
theorem BoxR.made {w0 w : World} (h : Ext w0 w) : BoxR w0 (w.alloc (.cells #[.int .i64 0, .int .i64 0, .int .i64 0, .int .i64 0, .int .i64 0, .int .i64 0, .int .i64 0, .int .i64 0, .int .i64 0, .int .i64 0] 24)) ⟨.pointer (some ⟨w.heap.size, 0, none⟩), w.heap.size, (w.alloc (.cells #[.int .i64 0, .int .i64 0, .int .i64 0, .int .i64 0, .int .i64 0, .int .i64 0, .int .i64 0, .int .i64 0, .int .i64 0, .int .i64 0] 24)).heap.size⟩ :=
  ⟨w.heap.size, _, _, _, _, _, _, _, _, _, _, rfl, h.size, ⟨Nat.le_refl _, by simp⟩, blk_new w _⟩
/-- A store into such a box. -/
theorem ChgIn.set10 {w0 w : World} {g : Nat} {u : GV} {c0 c1 c2 c3 c4 c5 c6 c7 c8 c9 : Value} (h0 : Ext w0 w) (hg : w0.heap.size ≤ g) (hi : u.s ≤ g ∧ g < u.t) (hb : w.heap[g]? = some (.cells #[c0, c1, c2, c3, c4, c5, c6, c7, c8, c9] 24 (0, 0))) (d0 d1 d2 d3 d4 d5 d6 d7 d8 d9 : Value) :
    ChgIn w0 0 [u] w ((((((((((w.setCell ⟨g, 0, none⟩ d0).setCell ⟨g, 1, none⟩ d1).setCell ⟨g, 2, none⟩ d2).setCell ⟨g, 3, none⟩ d3).setCell ⟨g, 4, none⟩ d4).setCell ⟨g, 5, none⟩ d5).setCell ⟨g, 6, none⟩ d6).setCell ⟨g, 7, none⟩ d7).setCell ⟨g, 8, none⟩ d8).setCell ⟨g, 9, none⟩ d9) := by
  have hu := upd10 g w d0 d1 d2 d3 d4 d5 d6 d7 d8 d9
  refine ⟨h0, set10_ext h0 hg _ _ _ _ _ _ _ _ _ _, hu.sz, fun b hb' hgs => hu.block b hb' fun he => ?_, fun b cs ty hbc => ?_⟩
  · injection he with he
    have := hgs u (by simp)
    omega
  · by_cases hbg : b = g
    · subst hbg
      rw [hb] at hbc
      simp only [Option.some.injEq, Obj.cells.injEq] at hbc
      obtain ⟨rfl, rfl, _⟩ := hbc
      exact ⟨_, set10_at hb d0 d1 d2 d3 d4 d5 d6 d7 d8 d9, rfl, rfl⟩
    · exact ⟨cs, hu.blk hbc hbg, rfl, rfl⟩

end Go.Proofs.Ytdpmogbibmgolaa
