/-
  The contract of batch.Events.
-/
import Derived.Test.YtcdfpifhjjiioaaBd
set_option linter.unusedVariables false
set_option linter.unusedSimpArgs false
namespace Go.Proofs.Ytcdfpifhjjiioaa
open Go.RowKit

/-- What a call of event.Decode answers, part by part, its numbers in new blocks. -/
def DecN (k d : Int) (xs : List Int) (t : ByteArray) (p q : Int) (w : World) (r : Ending) (w' : World) : Prop :=
  ∃ A c, r = .returned (.tuple #[.agg #[.int .i64 k, .int .i64 d, .slice A xs.length c, .string t], .int .i64 p, .int .i64 q]) ∧ IntsAt w' (.slice A xs.length c) xs ∧ (∀ b o, 0 < xs.length → A = some ⟨b, o, none⟩ → w.heap.size ≤ b) ∧ Ext w w'
theorem rdecode_n (s : ByteArray) (a : Int) (k d : Int) (xs : List Int) (t : ByteArray) (p q : Int) (h : Ev.decP s a = (⟨k, d, xs, t⟩, p, q)) (w : World) (hs : s.size ≤ maxLen) : Calls Try.prog 25 #[.string s, .int .i64 a] w (DecN k d xs t p q w) :=
  (rdec_any s a w hs).mono fun r w' hd => by
    rw [h] at hd
    obtain ⟨v, rfl, ⟨A, c, rfl, hI, hf⟩, hx⟩ := hd
    exact ⟨A, c, rfl, hI, hf, hx⟩
theorem results_tmp4 {fn : Func} {t u v x : Tmp} (h : fn.results = #[.tmp t, .tmp u, .tmp v, .tmp x]) (tmps : Array Value) (P : Program) (w : World) :
    (results fn tmps).run P w = .ok (.tuple #[tmps.getD t undef, tmps.getD u undef, tmps.getD v undef, tmps.getD x undef]) w := by
  simp [results, h]
/-- A slice that is nil, or has room for all that is in it. -/
def Capped (v : Value) : Prop := v = .slice none 0 0 ∨ ∃ g n c, v = .slice (some ⟨g, 0, none⟩) n c ∧ n ≤ c
theorem Capped.of {w : World} {B : Nat} {v : Value} {xs : List Int} (h : OwnInts w B v xs) : Capped v := by
  rcases h.2 with ⟨rfl, _⟩ | ⟨g, cap, cur, rfl, _, _, hle, _⟩
  · exact .inl rfl
  · exact .inr ⟨g, _, cap, rfl, hle⟩
/-- What a call of Events answers. -/
def EvsPost (p : List Ev × List Int × Nat × Nat) (w : World) (r : Ending) (w' : World) : Prop :=
  ∃ ev tv, r = .returned (.tuple #[ev, tv, .int .i64 (p.2.2.1 : Int), .int .i64 (p.2.2.2 : Int)]) ∧ EvsAt w' ev p.1 ∧ IntsAt w' tv p.2.1 ∧ Ext w w' ∧ Capped tv
theorem evs_nil (w : World) : EvsAt w (.slice none 0 0) [] := ⟨none, 0, rfl, fun h => by simp at h⟩
theorem ints_nil' (w : World) : IntsAt w (.slice none 0 0) [] := ⟨none, 0, rfl, fun h => by simp at h⟩
/-- The state at each round's head: the slices, where their blocks are. -/
def RunAt (g st ba : Int) (bo : ByteArray) (w : World) (ev tv : Value) (l : List Ev) (ts : List Int) (wr : World) : Prop :=
  OwnEvs wr (w.heap.size + 1) ev l tv.ownBlock ∧ OwnInts wr (w.heap.size + 1) tv ts ∧ (ev.ownBlock = none ∨ ev.ownBlock ≠ tv.ownBlock) ∧ wr.heap[w.heap.size]? = some (.cells #[.int .i64 g, .int .i64 st, .int .i64 ba, .string bo] 35 (0, 0)) ∧ Ext w wr
theorem RunAt.ext {g st ba : Int} {bo : ByteArray} {w : World} {ev tv : Value} {l : List Ev} {ts : List Int} {wr v : World} (h : RunAt g st ba bo w ev tv l ts wr) (hx : Ext wr v) : RunAt g st ba bo w ev tv l ts v :=
  ⟨h.1.ext hx, h.2.1.ext hx, h.2.2.1, hx.blk h.2.2.2.1, h.2.2.2.2.trans hx⟩
/-- Behind the append of an event. -/
theorem RunAt.event {g st ba : Int} {bo : ByteArray} {w : World} {ev tv : Value} {l : List Ev} {ts : List Int} {w1 w2 : World} {cs : List Value} {e : Ev} {A : Option Addr} {c gn cap : Nat} (h : RunAt g st ba bo w ev tv l ts w1) (hrow : EvRow w1 ev tv.ownBlock l cs)
    (hi : IntsAt w1 (.slice A e.args.length c) e.args) (hf : ∀ b o, 0 < e.args.length → A = some ⟨b, o, none⟩ → ev.ownBlock ≠ some b ∧ tv.ownBlock ≠ some b)
    (hown : w2.ownsRow (w.heap.size + 1) 28 4 (.slice (some ⟨gn, 0, none⟩) (l.length + 1) cap) (l.length + 1) (cs ++ [.int .i64 e.kind, .int .i64 e.dt, .slice A e.args.length c, .string e.text])) (hg : w1.grownBy w2 ev.ownBlock) (hgH : ev.ownBlock = some gn ∨ gn = w1.heap.size) :
    RunAt g st ba bo w (.slice (some ⟨gn, 0, none⟩) (l.length + 1) cap) tv (l ++ [e]) ts w2 := by
  obtain ⟨h1, h2, h3, h4, h5⟩ := h
  obtain ⟨_, ho, _⟩ := h1
  have hne : ∀ r, ev.ownBlock = some r → w.heap.size + 1 ≤ r := fun r hr => (World.ownsRow.lt ho r hr).1
  refine ⟨⟨_, by rw [List.length_append]; exact hown, hrow.snoc hg hgH hi hf⟩, ?_, ?_, ?_, ?_⟩
  · exact World.ownsRow.kept h2 hg (by
      cases hv : tv.ownBlock with
      | none => exact .inl rfl
      | some b =>
        right
        rcases h3 with h3 | h3
        · rw [h3]; simp
        · rw [← hv]; exact Ne.symm h3)
  · right
    intro he
    have hb := (World.ownsRow.lt h2 gn he.symm).2
    rcases hgH with hh | hh
    · rcases h3 with h3 | h3
      · rw [h3] at hh; cases hh
      · exact h3 (by rw [hh]; exact he)
    · omega
  · exact (hg.block _ (blk_lt h4) (fun e => by have := hne _ e.symm; omega)).trans h4
  · exact Below.grown h5 hg h5.size (fun r hr => by have := hne r hr; omega)
/-- Behind the append of a time. -/
theorem RunAt.time {g st ba : Int} {bo : ByteArray} {w : World} {ev tv : Value} {l : List Ev} {ts : List Int} {w1 w2 : World} {x : Int} {gn cap : Nat} (h : RunAt g st ba bo w ev tv l ts w1)
    (hown : w2.ownsRow (w.heap.size + 1) 3 1 (.slice (some ⟨gn, 0, none⟩) (ts.length + 1) cap) (ts.length + 1) (intsV ts ++ [.int .i64 x])) (hg : w1.grownBy w2 tv.ownBlock) (hgH : tv.ownBlock = some gn ∨ gn = w1.heap.size) :
    RunAt g st ba bo w ev (.slice (some ⟨gn, 0, none⟩) (ts.length + 1) cap) l (ts ++ [x]) w2 := by
  obtain ⟨h1, h2, h3, h4, h5⟩ := h
  have hne : ∀ r, tv.ownBlock = some r → w.heap.size + 1 ≤ r := fun r hr => (World.ownsRow.lt h2 r hr).1
  obtain ⟨k1, k2⟩ := h1.beside hg hgH h3
  refine ⟨k1, ?_, k2, ?_, ?_⟩
  · unfold OwnInts; rw [intsV_snoc, List.length_append]; exact hown
  · exact (hg.block _ (blk_lt h4) (fun e => by have := hne _ e.symm; omega)).trans h4
  · exact Below.grown h5 hg h5.size (fun r hr => by have := hne r hr; omega)
/-- What Events answers of a batch. -/
def Bt.events (b : Bt) : List Ev × List Int × Nat × Nat := if b.may then Bt.run b.body (b.body.size + 1) b.base 0 else ([], [], 0, 50)
end Go.Proofs.Ytcdfpifhjjiioaa
