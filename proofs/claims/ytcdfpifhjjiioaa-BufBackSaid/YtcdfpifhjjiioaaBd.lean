/-
  A slice of events of the call's own; what is read out of a body, as plain mathematics.
-/
import Derived.Test.YtcdfpifhjjiioaaBc
import Derived.Test.YtcdfpifhjjiioaaEk
import Derived.Test.YtcdfpifhjjiioaaGa
import Derived.Deep.AppendLies
set_option linter.unusedVariables false
set_option linter.unusedSimpArgs false
namespace Go.Proofs.Ytcdfpifhjjiioaa
open Go.RowKit

theorem Try.infoEvent : (Try.prog.info? 28).map (fun i => (i.zero, i.size, i.bytes)) = some (some (.agg #[.int .i64 0, .int .i64 0, .slice none 0 0, .string ⟨#[]⟩]), 4, 56) := by kernel_rfl

/-- Cells that hold events, whose numbers lie in no block of ours. -/
def EvRow (w : World) (v : Value) (X : Option Nat) (l : List Ev) (cs : List Value) : Prop :=
  cs.length = l.length * 4 ∧ ∀ j e, l[j]? = some e → ∃ A c, cs[j * 4]? = some (.int .i64 e.kind) ∧ cs[j * 4 + 1]? = some (.int .i64 e.dt) ∧ cs[j * 4 + 2]? = some (.slice A e.args.length c) ∧ cs[j * 4 + 3]? = some (.string e.text) ∧
    IntsAt w (.slice A e.args.length c) e.args ∧ ∀ b o, 0 < e.args.length → A = some ⟨b, o, none⟩ → v.ownBlock ≠ some b ∧ X ≠ some b
/-- A slice of events of the call's own; X is the block of a slice beside it. -/
def OwnEvs (w : World) (B : Nat) (v : Value) (l : List Ev) (X : Option Nat) : Prop := ∃ cs, w.ownsRow B 28 4 v l.length cs ∧ EvRow w v X l cs
theorem OwnEvs.nil (w : World) (B : Nat) (X : Option Nat) : OwnEvs w B (.slice none 0 0) [] X := ⟨[], World.ownsRow_nil w B _ 4, rfl, fun j e h => by simp at h⟩
theorem EvRow.ext {w w' : World} {v : Value} {X : Option Nat} {l : List Ev} {cs : List Value} (h : EvRow w v X l cs) (hx : Ext w w') : EvRow w' v X l cs :=
  ⟨h.1, fun j e hj => by
    obtain ⟨A, c, h0, h1, h2, h3, hi, hf⟩ := h.2 j e hj
    exact ⟨A, c, h0, h1, h2, h3, hi.ext hx, hf⟩⟩
theorem OwnEvs.ext {w w' : World} {B : Nat} {v : Value} {l : List Ev} {X : Option Nat} (h : OwnEvs w B v l X) (hx : Ext w w') : OwnEvs w' B v l X := by
  obtain ⟨cs, h1, h2⟩ := h
  exact ⟨cs, World.ownsRow.kept h1 hx.grownBy (by cases v.ownBlock <;> simp), h2.ext hx⟩
theorem EvRow.snoc {w w' : World} {v : Value} {X : Option Nat} {l : List Ev} {cs : List Value} {e : Ev} {A : Option Addr} {c g n cap : Nat} (h : EvRow w v X l cs) (hg : w.grownBy w' v.ownBlock) (hgH : v.ownBlock = some g ∨ g = w.heap.size)
    (hi : IntsAt w (.slice A e.args.length c) e.args) (hf : ∀ b o, 0 < e.args.length → A = some ⟨b, o, none⟩ → v.ownBlock ≠ some b ∧ X ≠ some b) :
    EvRow w' (.slice (some ⟨g, 0, none⟩) n cap) X (l ++ [e]) (cs ++ [.int .i64 e.kind, .int .i64 e.dt, .slice A e.args.length c, .string e.text]) := by
  have key : ∀ (e : Ev) (A : Option Addr) (c : Nat), IntsAt w (.slice A e.args.length c) e.args → (∀ b o, 0 < e.args.length → A = some ⟨b, o, none⟩ → v.ownBlock ≠ some b ∧ X ≠ some b) →
      IntsAt w' (.slice A e.args.length c) e.args ∧ ∀ b o, 0 < e.args.length → A = some ⟨b, o, none⟩ → (Value.slice (some ⟨g, 0, none⟩) n cap).ownBlock ≠ some b ∧ X ≠ some b := fun e A c hi hf => by
    refine ⟨hi.grown hg fun b o h0 hA => Ne.symm (hf b o h0 hA).1, fun b o h0 hA => ⟨?_, (hf b o h0 hA).2⟩⟩
    subst hA
    have hlt := hi.lt h0
    have h1 := (hf b o h0 rfl).1
    intro he
    simp only [Value.ownBlock, Option.some.injEq] at he
    subst he
    rcases hgH with hh | hh
    · exact h1 hh
    · omega
  refine ⟨by simp [h.1]; omega, fun j e' hj => ?_⟩
  rcases Nat.lt_or_ge j l.length with hlt | hge
  · rw [List.getElem?_append_left hlt] at hj
    obtain ⟨A', c', h0, h1, h2, h3, hi', hf'⟩ := h.2 j e' hj
    obtain ⟨k1, k2⟩ := key e' A' c' hi' hf'
    refine ⟨A', c', ?_, ?_, ?_, ?_, k1, k2⟩ <;> (rw [List.getElem?_append_left (by rw [h.1]; omega)]; assumption)
  · have hjl : j = l.length := by
      rcases Nat.lt_or_ge j (l.length + 1) with h' | h'
      · omega
      · rw [List.getElem?_eq_none (by simpa using h')] at hj; cases hj
    subst hjl
    simp at hj
    subst hj
    obtain ⟨k1, k2⟩ := key e A c hi hf
    refine ⟨A, c, ?_, ?_, ?_, ?_, k1, k2⟩ <;> (rw [List.getElem?_append_right (by rw [h.1]; omega), h.1]; simp)
theorem OwnEvs.beside {w w' : World} {B : Nat} {v : Value} {l : List Ev} {X : Option Nat} {g : Nat} (h : OwnEvs w B v l X) (hg : w.grownBy w' X) (hgH : X = some g ∨ g = w.heap.size) (hd : v.ownBlock = none ∨ v.ownBlock ≠ X) :
    OwnEvs w' B v l (some g) ∧ (v.ownBlock = none ∨ v.ownBlock ≠ some g) := by
  obtain ⟨cs, h1, h2⟩ := h
  have hnew : ∀ b, b < w.heap.size → X ≠ some b → some g ≠ some b := fun b hb hX he => by
    injection he with he
    subst he
    rcases hgH with hh | hh
    · exact hX hh
    · omega
  refine ⟨⟨cs, World.ownsRow.kept h1 hg hd, h2.1, fun j e hj => ?_⟩, ?_⟩
  · obtain ⟨A, c, h0, h1', h2', h3, hi, hf⟩ := h2.2 j e hj
    refine ⟨A, c, h0, h1', h2', h3, hi.grown hg fun b o h0 hA => Ne.symm (hf b o h0 hA).2, fun b o h0 hA => ⟨(hf b o h0 hA).1, ?_⟩⟩
    have hX := (hf b o h0 hA).2
    subst hA
    exact hnew b (hi.lt h0) hX
  · cases hv : v.ownBlock with
    | none => exact .inl rfl
    | some b =>
      right
      have hb := (World.ownsRow.lt h1 b hv).2
      rcases hd with hd | hd
      · rw [hv] at hd; cases hd
      · exact fun he => hnew b hb (fun hX => hd (by rw [hv, hX])) he.symm
theorem OwnEvs.evs {w : World} {B : Nat} {v : Value} {l : List Ev} {X : Option Nat} (h : OwnEvs w B v l X) : EvsAt w v l := by
  obtain ⟨cs, h1, h2⟩ := h
  have hown := h1
  rcases h1.2 with ⟨rfl, h0⟩ | ⟨g, cap, cur, rfl, hb, hg, hnc, hcm, hcs, htake⟩
  · obtain rfl := List.eq_nil_of_length_eq_zero h0
    exact ⟨none, 0, rfl, fun h => by simp at h⟩
  · refine ⟨_, cap, rfl, fun _ => ⟨g, 0, rfl, (Array.getElem?_eq_some_iff.1 hg).1, fun j e hj => ?_⟩⟩
    have hjl : j < l.length := (List.getElem?_eq_some_iff.1 hj).1
    obtain ⟨A, c, c0, c1, c2, c3, hi, _⟩ := h2.2 j e hj
    refine ⟨A, c, ?_, ?_, ?_, ?_, hi⟩ <;> rw [Nat.zero_add, World.ownsRow.cellAt hown _ (by omega)] <;> assumption

/-- What is read out of a body, from a place on, at a time: events, their times, where it is wrong, and what. -/
def Bt.comb (l : List Ev) (ts : List Int) (r : List Ev × List Int × Nat × Nat) : List Ev × List Int × Nat × Nat := if r.2.2.2 = 0 then (l ++ r.1, ts ++ r.2.1, 0, 0) else ([], [], r.2.2.1, r.2.2.2)
def Bt.run (s : ByteArray) : Nat → Int → Nat → List Ev × List Int × Nat × Nat
  | 0, _, _ => ([], [], 0, 0)
  | f + 1, now, a =>
    if s.size ≤ a then ([], [], 0, 0)
    else if (Ev.dec (s.data.toList.drop a)).2.2 = 0 then
      if Ev.ok (now + (Ev.dec (s.data.toList.drop a)).1.dt) then Bt.comb [(Ev.dec (s.data.toList.drop a)).1] [now + (Ev.dec (s.data.toList.drop a)).1.dt] (Bt.run s f (now + (Ev.dec (s.data.toList.drop a)).1.dt) (a + (Ev.dec (s.data.toList.drop a)).2.1))
      else ([], [], a, 11)
    else ([], [], a, (Ev.dec (s.data.toList.drop a)).2.2)
theorem Bt.comb_comb (l : List Ev) (ts : List Int) (l' : List Ev) (ts' : List Int) (r : List Ev × List Int × Nat × Nat) : Bt.comb l ts (Bt.comb l' ts' r) = Bt.comb (l ++ l') (ts ++ ts') r := by
  unfold Bt.comb
  by_cases h : r.2.2.2 = 0
  · simp [h]
  · simp [h]
theorem Bt.run_shape (s : ByteArray) : ∀ f now a, Bt.comb [] [] (Bt.run s f now a) = Bt.run s f now a
  | 0, _, _ => rfl
  | f + 1, now, a => by
    unfold Bt.run
    by_cases h1 : s.size ≤ a
    · rw [if_pos h1]; rfl
    · rw [if_neg h1]
      by_cases h2 : (Ev.dec (s.data.toList.drop a)).2.2 = 0
      · rw [if_pos h2]
        by_cases h3 : Ev.ok (now + (Ev.dec (s.data.toList.drop a)).1.dt) = true
        · rw [if_pos h3, Bt.comb_comb]; rfl
        · rw [if_neg h3]; rfl
      · rw [if_neg h2]; unfold Bt.comb; rw [if_neg h2]
/-- What holds at each round's head. -/
structure EvsRun (s : ByteArray) (base : Int) (l : List Ev) (ts : List Int) (now : Int) (a : Nat) : Prop where
  at_ : a ≤ s.size
  len : l.length ≤ a
  lens : ts.length = l.length
  ok : Ev.ok now = true
  all : Bt.run s (s.size + 1) base 0 = Bt.comb l ts (Bt.run s (s.size + 1 - l.length) now a)
theorem EvsRun.start {s : ByteArray} {base : Int} (h : Ev.ok base = true) : EvsRun s base [] [] base 0 := ⟨by omega, by simp, rfl, h, by rw [Bt.run_shape]; rfl⟩
theorem EvsRun.done {s : ByteArray} {base : Int} {l : List Ev} {ts : List Int} {now : Int} (h : EvsRun s base l ts now s.size) : Bt.run s (s.size + 1) base 0 = (l, ts, 0, 0) := by
  have hl := h.len
  rw [h.all, show s.size + 1 - l.length = (s.size - l.length) + 1 by omega]
  unfold Bt.run
  rw [if_pos (Nat.le_refl _)]
  simp [Bt.comb]
theorem EvsRun.bad {s : ByteArray} {base : Int} {l : List Ev} {ts : List Int} {now : Int} {a : Nat} (h : EvsRun s base l ts now a) (hlt : a < s.size) {e : Ev} {p q : Int} (hp : Ev.decP s a = (e, p, q)) (hq : ¬ q = 0) : ∃ c : Nat, q = c ∧ Bt.run s (s.size + 1) base 0 = ([], [], a, c) := by
  have hl := h.len
  rw [Ev.decP_nat s a (by omega)] at hp
  simp only [Prod.mk.injEq] at hp
  obtain ⟨_, _, rfl⟩ := hp
  refine ⟨_, rfl, ?_⟩
  rw [h.all, show s.size + 1 - l.length = (s.size - l.length) + 1 by omega]
  unfold Bt.run
  rw [if_neg (by omega), if_neg (by omega)]
  unfold Bt.comb
  rw [if_neg (by simp only; omega)]
theorem EvsRun.good {s : ByteArray} {base : Int} {l : List Ev} {ts : List Int} {now : Int} {a : Nat} (h : EvsRun s base l ts now a) (hlt : a < s.size) {e : Ev} {p : Int} (hp : Ev.decP s a = (e, p, 0)) :
    ∃ k : Nat, p = ((a + k : Nat) : Int) ∧ 0 < k ∧ a + k ≤ s.size ∧ Ev.ok e.dt = true ∧ (Ev.ok (now + e.dt) = true → EvsRun s base (l ++ [e]) (ts ++ [now + e.dt]) (now + e.dt) (a + k)) ∧ (Ev.ok (now + e.dt) = false → Bt.run s (s.size + 1) base 0 = ([], [], a, 11)) := by
  have hl := h.len
  have hsz : s.data.toList.length = s.size := by simp
  rw [Ev.decP_nat s a (by omega)] at hp
  rcases hd : Ev.dec (s.data.toList.drop a) with ⟨e', k, c⟩
  rw [hd] at hp
  simp only [Prod.mk.injEq] at hp
  obtain ⟨rfl, hpp, hc⟩ := hp
  obtain rfl : c = 0 := by omega
  rw [if_pos rfl] at hpp
  obtain ⟨hm, _, hk, r, hL⟩ := Ev.dec_ok hd
  have hle : a + k ≤ s.size := by
    have := congrArg List.length hL
    rw [List.length_drop, List.length_append, hsz] at this
    omega
  have hk0 : 0 < k := by rw [hk]; unfold Ev.encL; simp
  have hrun : Bt.run s (s.size + 1 - l.length) now a = if Ev.ok (now + e'.dt) then Bt.comb [e'] [now + e'.dt] (Bt.run s (s.size - l.length) (now + e'.dt) (a + k)) else ([], [], a, 11) := by
    rw [show s.size + 1 - l.length = (s.size - l.length) + 1 by omega]
    conv => lhs; unfold Bt.run
    rw [if_neg (by omega), hd]
    simp only [if_true]
  refine ⟨k, by omega, hk0, hle, Ev.may_dt hm, fun ho => ⟨hle, by simp; omega, by simp [h.lens], ho, ?_⟩, fun ho => ?_⟩
  · rw [h.all, hrun, if_pos ho, Bt.comb_comb, List.length_append, List.length_singleton]
    rw [show s.size + 1 - (l.length + 1) = s.size - l.length by omega]
  · rw [h.all, hrun, ho]
    rfl

end Go.Proofs.Ytcdfpifhjjiioaa
