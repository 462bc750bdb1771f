/-
  Timers: what they read as, which stands ahead, which lists may be; and the walk of before.
-/
import Derived.Test.YtonnpmgnbmbooaaLa
import Derived.Test.YtonnpmgnbmbooaaRg
import Derived.Deep.QuietTactic
import Derived.BigQuiet
set_option linter.unusedVariables false
set_option linter.unusedSimpArgs false
namespace Go.Proofs.Ytonnpmgnbmbooaa
open Go.RowKit

/-- A slice of pairs of numbers. -/
def PairsAt (w : World) (v : Value) (xs : List (Int × Int)) : Prop :=
  ∃ A c, v = .slice A xs.length c ∧ xs.length ≤ c ∧ (0 < xs.length → ∃ b o, A = some ⟨b, o, none⟩ ∧ b < w.heap.size ∧ ∀ j p, xs[j]? = some p → w.cell? ⟨b, o + j * 2, none⟩ = some (.int .i64 p.1) ∧ w.cell? ⟨b, o + j * 2 + 1, none⟩ = some (.int .i64 p.2))
theorem PairsAt.ext {w w' : World} {v : Value} {xs : List (Int × Int)} (h : PairsAt w v xs) (hx : Ext w w') : PairsAt w' v xs := by
  obtain ⟨A, c, rfl, hc, hA⟩ := h
  refine ⟨A, c, rfl, hc, fun h0 => ?_⟩
  obtain ⟨b, o, hb, hlt, hc⟩ := hA h0
  exact ⟨b, o, hb, Nat.lt_of_lt_of_le hlt hx.size, fun j x hj => by rw [Below.cell hx hlt, Below.cell hx hlt]; exact hc j x hj⟩
/-- A pair as one value. -/
def pairV (p : Int × Int) : Value := .agg #[.int .i64 p.1, .int .i64 p.2]
def i64ok (x : Int) : Prop := -9223372036854775808 ≤ x ∧ x ≤ 9223372036854775807

def Sl.lt (a b : Int × Int) : Prop := a.1 < b.1 ∨ a.1 = b.1 ∧ a.2 < b.2
instance (a b : Int × Int) : Decidable (Sl.lt a b) := by unfold Sl.lt; exact inferInstance
def Sl.fit (p : Int × Int) : Prop := 0 ≤ p.1 ∧ p.1 < 4611686018427387904 ∧ 1 ≤ p.2
instance (p : Int × Int) : Decidable (Sl.fit p) := by unfold Sl.fit; exact inferInstance
theorem Sl.lt_trans {a b c : Int × Int} (h : Sl.lt a b) (k : Sl.lt b c) : Sl.lt a c := by unfold Sl.lt at *; omega
theorem Sl.lt_irrefl (a : Int × Int) : ¬ Sl.lt a a := by unfold Sl.lt; omega
theorem Sl.lt_total {a b : Int × Int} (h : ¬ Sl.lt a b) (k : ¬ Sl.lt b a) : a = b := by unfold Sl.lt at *; apply Prod.ext <;> omega
def Sl.May (l : List (Int × Int)) : Prop := (∀ p ∈ l, Sl.fit p) ∧ l.Pairwise Sl.lt ∧ (l.map Prod.snd).Nodup
instance (l : List (Int × Int)) : Decidable (Sl.May l) := by unfold Sl.May; exact inferInstance

theorem Sl.May.nil : Sl.May [] := ⟨by simp, by simp, by simp⟩
theorem Sl.May.sub {l m : List (Int × Int)} (h : Sl.May m) (hs : l.Sublist m) : Sl.May l :=
  ⟨fun p hp => h.1 p (hs.subset hp), h.2.1.sublist hs, h.2.2.sublist (hs.map _)⟩
theorem Sl.may_snoc {l : List (Int × Int)} {p : Int × Int} : Sl.May (l ++ [p]) ↔ Sl.May l ∧ Sl.fit p ∧ (∀ q, l.getLast? = some q → Sl.lt q p) ∧ p.2 ∉ l.map Prod.snd := by
  constructor
  · intro h
    refine ⟨h.sub (List.sublist_append_left _ _), h.1 p (by simp), fun q hq => ?_, ?_⟩
    · have := (List.pairwise_append.1 h.2.1).2.2 q (List.mem_of_getLast? hq) p (by simp)
      exact this
    · have h3 := h.2.2
      rw [List.map_append, List.nodup_append] at h3
      intro hm
      exact h3.2.2 _ hm p.2 (by simp) rfl
  · rintro ⟨h, hf, hlt, hn⟩
    refine ⟨fun q hq => ?_, ?_, ?_⟩
    · rcases List.mem_append.1 hq with hq | hq
      · exact h.1 q hq
      · rw [List.mem_singleton.1 hq]; exact hf
    · refine List.pairwise_append.2 ⟨h.2.1, by simp, fun a ha b hb => ?_⟩
      rw [List.mem_singleton.1 hb]
      rcases List.eq_nil_or_concat l with rfl | ⟨l', z, rfl⟩
      · simp at ha
      · have hz := hlt z (by simp)
        rw [List.concat_eq_append] at ha h
        rcases List.mem_append.1 ha with ha | ha
        · exact Sl.lt_trans ((List.pairwise_append.1 h.2.1).2.2 a ha z (by simp)) hz
        · rw [List.mem_singleton.1 ha]; exact hz
    · rw [List.map_append, List.nodup_append]
      refine ⟨h.2.2, by simp, fun a ha b hb => ?_⟩
      simp at hb
      subst hb
      intro he
      exact hn (he ▸ ha)

set_option maxRecDepth 100000 in
set_option maxHeartbeats 1000000 in
theorem before_any (a b : Int × Int) (w : World) : Calls Try.prog 18 #[pairV a, pairV b] w fun e w' => e = .returned (.bool (decide (Sl.lt a b))) ∧ Ext w w' := by
  obtain ⟨a0, a1⟩ := a
  obtain ⟨b0, b1⟩ := b
  unfold pairV
  simp only
  by_cases h0 : a0 < b0
  · rw [show decide (Sl.lt (a0, a1) (b0, b1)) = true from decide_eq_true (Or.inl h0)]
    go_enter Try.func18, Try.ntmps18
    go_wp2
    go_ret
    exact ⟨rfl, ((Ext.refl _).alloc _).alloc _⟩
  · by_cases h1 : a0 = b0
    · subst h1
      rw [show decide (Sl.lt (a0, a1) (a0, b1)) = decide (a1 < b1) from decide_eq_decide.2 (show (a0 < a0 ∨ a0 = a0 ∧ a1 < b1) ↔ a1 < b1 by omega)]
      go_enter Try.func18, Try.ntmps18
      go_wp2
      go_ret
      exact ⟨rfl, ((Ext.refl _).alloc _).alloc _⟩
    · have hb : (a0 == b0) = false := by simpa using h1
      rw [show decide (Sl.lt (a0, a1) (b0, b1)) = false from decide_eq_false (show ¬ (a0 < b0 ∨ a0 = b0 ∧ a1 < b1) by omega)]
      go_enter Try.func18, Try.ntmps18
      go_wp2
      go_ret
      exact ⟨rfl, ((Ext.refl _).alloc _).alloc _⟩

end Go.Proofs.Ytonnpmgnbmbooaa
