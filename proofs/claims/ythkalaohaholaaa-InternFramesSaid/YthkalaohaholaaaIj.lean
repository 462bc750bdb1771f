/-
  Contracts of intern's May, String and Name.
-/
import Derived.Test.YthkalaohaholaaaIi
set_option linter.unusedVariables false
set_option linter.unusedSimpArgs false
namespace Go.Proofs.Ythkalaohaholaaa
open Go.RowKit Go.Maps

theorem tabAt_none (w : World) : TabAt w (.agg #[.slice none 0 0, .slice none 0 0]) Tb.none :=
  ⟨_, _, rfl, ⟨none, 0, rfl, Nat.le_refl _, fun h => by simp [Tb.none] at h⟩, [], rfl, ⟨none, 0, rfl, Nat.le_refl _, fun h => by simp at h⟩, fun i u xs h => by simp at h⟩
theorem TabAt.two {w : World} {v : Value} {t : Tb} (h : TabAt w v t) : ∃ A c B d, v = .agg #[.slice A t.ss.length c, .slice B t.ks.length d] ∧ RowsAt 1 strL w (.slice A t.ss.length c) t.ss ∧ NestAt 2 frL w (.slice B t.ks.length d) t.ks := by
  obtain ⟨sv, kv, rfl, h1, h2⟩ := h
  obtain ⟨A, c, rfl, _⟩ := h1.form
  obtain ⟨B, d, rfl, _⟩ := h2.form
  exact ⟨A, c, B, d, rfl, h1, h2⟩
/-- A table that is answered, and a number. -/
def TabIn (L H : Nat) (w : World) (v : Value) (t : Tb) : Prop := ∃ sv kv, v = .agg #[sv, kv] ∧ RowsIn L H 1 strL w sv t.ss ∧ NestIn L H 2 frL w kv t.ks
theorem TabIn.tab {L H : Nat} {w : World} {v : Value} {t : Tb} (h : TabIn L H w v t) : TabAt w v t := by
  obtain ⟨sv, kv, rfl, h1, h2⟩ := h
  exact ⟨sv, kv, rfl, h1.rows, h2.nest⟩
def TabP (r : Tb × Int) (w : World) (e : Ending) (w' : World) : Prop := ∃ v, e = .returned (.tuple #[v, .int .i64 r.2]) ∧ TabAt w' v r.1 ∧ Ext w w' ∧ TabIn w.heap.size w'.heap.size w' v r.1
set_option maxRecDepth 100000 in
set_option maxHeartbeats 4000000 in
theorem imay_any (v : Value) (t : Tb) (w : World) (h : TabAt w v t) (hl : t.ss.length ≤ 100000) (hm : t.ks.length ≤ 100000) :
    Calls Try.prog 19 #[v] w fun e w' => e = .returned (.bool t.may) ∧ Ext w w' := by
  obtain ⟨A, c, B, d, rfl, h1, h2⟩ := h.two
  have HX0 : Hid (Ext w (w.alloc (.cells #[.slice A t.ss.length c, .slice B t.ks.length d] 25))) := Lib.hid ((Ext.refl w).alloc _)
  have HO := Lib.hid (open_any _ _ t _ (h1.ext HX0.out) (h2.ext HX0.out) hl hm)
  clear h h1 h2
  cases hm : t.may with
  | false =>
    go_enter Try.func19, Try.ntmps19
    go_wp2_with fail
    refine HO.out.mono ?_
    rintro e w2 ⟨hx, hif⟩
    rw [hm] at hif
    obtain rfl := (show e = .returned (.tuple #[.agg #[.slice none 0 0, .slice none 0 0, .map none, .map none], .bool false]) by simpa using hif)
    have HX := Lib.hid (HX0.out.trans hx)
    clear hif hx
    go_wp2
    go_ret
    exact ⟨rfl, HX.out.alloc _⟩
  | true =>
    go_enter Try.func19, Try.ntmps19
    go_wp2_with fail
    refine HO.out.mono ?_
    rintro e w2 ⟨hx, hif⟩
    rw [hm, if_pos rfl] at hif
    obtain ⟨tb, kb, rfl, _⟩ := hif
    have HX := Lib.hid (HX0.out.trans hx)
    clear hx
    go_wp2
    go_ret
    exact ⟨rfl, HX.out.alloc _⟩

end Go.Proofs.Ythkalaohaholaaa
