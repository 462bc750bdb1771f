/-
  Several texts in one: Sn, So.
-/
import Derived.Test.YtogcfndhcphpaaaK22
/-
  The document's answers for layer 11: Next and Due.
-/
set_option linter.unusedVariables false
set_option linter.unusedSimpArgs false
namespace Go.Proofs.Ytogcfndhcphpaaa
open Go.RowKit

theorem srmay_eq (v : Value) (xs : List (Int × Int)) (b : Bool) (hb : decide (Sl.May xs) = b) (w : World) (h : PairsAt w v xs) (hn : xs.length ≤ 1000000) :
    Calls Try.prog 75 #[v] w fun e w' => e = .returned (.bool b) ∧ Ext w w' := by subst hb; exact srmay_any v xs w h hn
/-- Who is due, picked out one by one. -/
def Sl.early (l : List (Int × Int)) (now : Int) : List (Int × Int) := l.filter fun q => decide (q.1 ≤ now)
def Sl.late (l : List (Int × Int)) (now : Int) : List (Int × Int) := l.filter fun q => !decide (q.1 ≤ now)
theorem Sl.early_eq : ∀ (l : List (Int × Int)) (now : Int), Sl.May l → Sl.early l now = l.take (Sl.many l now) ∧ Sl.late l now = Sl.left l now
  | [], now, _ => ⟨rfl, rfl⟩
  | p :: l, now, hm => by
    obtain ⟨h1, h2⟩ := Sl.early_eq l now (hm.sub (List.sublist_cons_self _ _))
    unfold Sl.early Sl.late Sl.left at *
    by_cases hp : p.1 ≤ now
    · have hmn : Sl.many (p :: l) now = Sl.many l now + 1 := by
        unfold Sl.many
        rw [List.takeWhile_cons]
        simp [hp]
      rw [hmn, List.filter_cons, List.filter_cons]
      simp only [hp, decide_true, if_true, Bool.not_true, Bool.false_eq_true, if_false]
      exact ⟨by rw [h1]; rfl, by rw [h2]; rfl⟩
    · have hmn : Sl.many (p :: l) now = 0 := by
        unfold Sl.many
        rw [List.takeWhile_cons]
        simp [hp]
      have hl : ∀ q ∈ p :: l, ¬ q.1 ≤ now := fun q hq => by have := Sl.head_le hm q hq; omega
      rw [hmn]
      refine ⟨?_, ?_⟩
      · rw [List.take_zero, List.filter_eq_nil_iff]
        intro q hq; simpa using hl q hq
      · rw [List.drop_zero, List.filter_eq_self]
        intro q hq; simpa using hl q hq
theorem Sl.early_next {l : List (Int × Int)} {k : Nat} {p : Int × Int} (now : Int) (h : l.take (k + 1) = l.take k ++ [p]) :
    (p.1 ≤ now → Sl.early (l.take (k + 1)) now = Sl.early (l.take k) now ++ [p] ∧ Sl.late (l.take (k + 1)) now = Sl.late (l.take k) now) ∧
    (¬ p.1 ≤ now → Sl.early (l.take (k + 1)) now = Sl.early (l.take k) now ∧ Sl.late (l.take (k + 1)) now = Sl.late (l.take k) now ++ [p]) := by
  rw [h]
  unfold Sl.early Sl.late
  rw [List.filter_append, List.filter_append]
  refine ⟨fun hp => ?_, fun hp => ?_⟩ <;> simp [hp]
theorem Sl.early_le (l : List (Int × Int)) (now : Int) (k : Nat) : (Sl.early (l.take k) now).length ≤ l.length ∧ (Sl.late (l.take k) now).length ≤ l.length := by
  unfold Sl.early Sl.late
  have h1 := List.length_filter_le (fun q : Int × Int => decide (q.1 ≤ now)) (l.take k)
  have h2 := List.length_filter_le (fun q : Int × Int => !decide (q.1 ≤ now)) (l.take k)
  rw [List.length_take] at h1 h2
  omega
theorem pairs_made' (v : World) (g : Nat) (hg : g = v.heap.size) : OwnTs (v.alloc (.cells #[] 76)) v.heap.size (.slice (some ⟨g, 0, none⟩) 0 0) [] := by
  subst hg
  exact World.ownsRow_made (base := v.heap.size) (e := 76) (size := 2) v #[] 0 (Nat.le_refl _) (by decide) rfl
/-- What holds at each round's head. -/
def DueAt (xs : List (Int × Int)) (now : Int) (W : World) (k : Nat) (d r : Value) (wr : World) : Prop :=
  OwnInts wr W.heap.size d ((Sl.early (xs.take k) now).map Prod.snd) ∧ OwnTs wr W.heap.size r (Sl.late (xs.take k) now) ∧ Apart d r ∧ Ext W wr
end Go.Proofs.Ytogcfndhcphpaaa
/-
  The document's answer for layer 11: Put.
-/
set_option linter.unusedVariables false
set_option linter.unusedSimpArgs false
namespace Go.Proofs.Ytogcfndhcphpaaa
open Go.RowKit

/-- Where the document lays a timer: ahead of the first one that it stands ahead of. -/
def Sl.pos (l : List (Int × Int)) (t : Int × Int) : Nat := (l.takeWhile fun q => !decide (Sl.lt t q)).length
def Sl.insR (l : List (Int × Int)) (t : Int × Int) : List (Int × Int) := l.take (Sl.pos l t) ++ [t] ++ l.drop (Sl.pos l t)
theorem Sl.pos_le (l : List (Int × Int)) (t : Int × Int) : Sl.pos l t ≤ l.length := (List.takeWhile_sublist _).length_le
theorem Sl.pos_lt (l : List (Int × Int)) (t : Int × Int) (j : Nat) (q : Int × Int) (hj : j < Sl.pos l t) (hq : l[j]? = some q) : ¬ Sl.lt t q := by
  have h1 := List.takeWhile_append_dropWhile (p := fun q => !decide (Sl.lt t q)) (l := l)
  have h2 : (l.takeWhile fun q => !decide (Sl.lt t q))[j]? = some q := by
    rw [← h1, List.getElem?_append_left hj] at hq; exact hq
  have h3 : ∀ (m : List (Int × Int)), ∀ x ∈ m.takeWhile (fun q => !decide (Sl.lt t q)), ¬ Sl.lt t x := by
    intro m
    induction m with
    | nil => intro x hx; simp at hx
    | cons y m ih =>
      intro x hx
      rw [List.takeWhile_cons] at hx
      by_cases hy : Sl.lt t y
      · simp [hy] at hx
      · simp [hy] at hx
        rcases hx with rfl | hx
        · exact hy
        · exact ih x hx
  exact h3 l q (List.mem_of_getElem? h2)
theorem Sl.pos_stop (l : List (Int × Int)) (t : Int × Int) (q : Int × Int) (hq : l[Sl.pos l t]? = some q) : Sl.lt t q := by
  induction l with
  | nil => simp at hq
  | cons x l ih =>
    unfold Sl.pos at *
    rw [List.takeWhile_cons] at hq
    by_cases hx : Sl.lt t x
    · simp [hx] at hq
      subst hq; exact hx
    · simp [hx] at hq
      exact ih hq
theorem Sl.insR_eq {l : List (Int × Int)} {t : Int × Int} (h : t.2 ∉ l.map Prod.snd) : Sl.insR l t = Sl.ins l t := by
  have : Sl.pos l t = Sl.at l t := by
    unfold Sl.pos Sl.at
    induction l with
    | nil => rfl
    | cons x l ih =>
      have hx : x ≠ t := fun e => h (by rw [e]; simp)
      have ih' := ih fun hm => h (by rw [List.map_cons]; exact List.mem_cons_of_mem _ hm)
      rw [List.takeWhile_cons, List.takeWhile_cons]
      by_cases h1 : Sl.lt t x
      · have h2 : ¬ Sl.lt x t := fun h2 => Sl.lt_irrefl t (Sl.lt_trans h1 h2)
        simp [h1, h2]
      · have h2 : Sl.lt x t := by
          by_cases h2 : Sl.lt x t
          · exact h2
          · exact absurd (Sl.lt_total h2 h1) hx
        simp [h1, h2, ih']
  unfold Sl.insR Sl.ins
  rw [this]
theorem Sl.apart_of {a b : List (Int × Int)} {t : Int × Int} (h : Sl.May (a ++ [t] ++ b)) : t.2 ∉ (a ++ b).map Prod.snd := by
  have h3 := h.2.2
  rw [List.map_append, List.map_append, List.append_assoc, List.nodup_append] at h3
  obtain ⟨_, h4, h5⟩ := h3
  rw [List.map_cons, List.map_nil, List.singleton_append, List.nodup_cons] at h4
  intro hm
  rw [List.map_append, List.mem_append] at hm
  rcases hm with hm | hm
  · exact h5 _ hm _ (by simp) rfl
  · exact h4.1 hm
theorem Sl.insR_may (l : List (Int × Int)) (t : Int × Int) : (decide (Sl.May l) && decide (Sl.May (Sl.insR l t))) = decide (Sl.May (Sl.ins l t)) ∧ (Sl.May (Sl.ins l t) → Sl.insR l t = Sl.ins l t) := by
  have k1 : Sl.May (Sl.ins l t) → t.2 ∉ l.map Prod.snd := fun h => by
    unfold Sl.ins at h
    have := Sl.apart_of h
    rwa [List.take_append_drop] at this
  have k2 : Sl.May (Sl.insR l t) → t.2 ∉ l.map Prod.snd := fun h => by
    unfold Sl.insR at h
    have := Sl.apart_of h
    rwa [List.take_append_drop] at this
  have k3 : Sl.May (Sl.ins l t) → Sl.May l := fun h => by
    refine h.sub ?_
    conv => lhs; rw [← List.take_append_drop (Sl.at l t) l]
    unfold Sl.ins
    rw [List.append_assoc]
    exact List.Sublist.append (List.Sublist.refl _) (List.sublist_append_right _ _)
  refine ⟨?_, fun h => Sl.insR_eq (k1 h)⟩
  rw [Bool.eq_iff_iff]
  simp only [Bool.and_eq_true, decide_eq_true_eq]
  constructor
  · rintro ⟨_, h2⟩
    rw [← Sl.insR_eq (k2 h2)]
    exact h2
  · intro h
    exact ⟨k3 h, by rw [Sl.insR_eq (k1 h)]; exact h⟩
/-- What is laid behind so many rounds. -/
def Sl.part (l : List (Int × Int)) (t : Int × Int) (k : Nat) : List (Int × Int) := if k ≤ Sl.pos l t then l.take k else l.take (Sl.pos l t) ++ [t] ++ (l.take k).drop (Sl.pos l t)
theorem Sl.part_low {l : List (Int × Int)} {t : Int × Int} {k : Nat} (h : k ≤ Sl.pos l t) : Sl.part l t k = l.take k := by unfold Sl.part; rw [if_pos h]
theorem Sl.part_next {l : List (Int × Int)} {t p : Int × Int} {k : Nat} (h : l.take (k + 1) = l.take k ++ [p]) (hk : k < l.length) :
    (k < Sl.pos l t → Sl.part l t (k + 1) = Sl.part l t k ++ [p]) ∧ (k = Sl.pos l t → Sl.part l t (k + 1) = Sl.part l t k ++ [t] ++ [p]) ∧ (Sl.pos l t < k → Sl.part l t (k + 1) = Sl.part l t k ++ [p]) := by
  have hl := Sl.pos_le l t
  refine ⟨fun h1 => ?_, fun h1 => ?_, fun h1 => ?_⟩
  · rw [Sl.part_low (k := k + 1) h1, Sl.part_low (k := k) (by omega), h]
  · rw [Sl.part_low (k := k) (by omega)]
    unfold Sl.part
    have e : (l.take k).length = k := by rw [List.length_take]; omega
    have e2 : (l.take k ++ [p]).drop k = [p] := by
      have := List.drop_left (l₁ := l.take k) (l₂ := [p])
      rwa [e] at this
    rw [if_neg (by omega), h, ← h1, e2]
  · unfold Sl.part
    rw [if_neg (by omega), if_neg (by omega), h, List.drop_append]
    have : Sl.pos l t - (l.take k).length = 0 := by rw [List.length_take]; omega
    rw [this]
    simp
theorem Sl.part_end (l : List (Int × Int)) (t : Int × Int) : (Sl.pos l t < l.length → Sl.part l t l.length = Sl.insR l t) ∧ (Sl.pos l t = l.length → Sl.part l t l.length ++ [t] = Sl.insR l t) := by
  refine ⟨fun h => ?_, fun h => ?_⟩
  · unfold Sl.part Sl.insR
    rw [if_neg (by omega), List.take_length]
  · rw [Sl.part_low (by omega)]
    unfold Sl.insR
    rw [h, List.take_length, List.drop_length]
    simp
theorem Sl.part_len (l : List (Int × Int)) (t : Int × Int) (k : Nat) : (Sl.part l t k).length ≤ l.length + 1 := by
  have := Sl.pos_le l t
  unfold Sl.part
  split
  · rw [List.length_take]; omega
  · rw [List.length_append, List.length_append, List.length_take, List.length_drop, List.length_take, List.length_singleton]; omega
theorem Sl.insR_len (l : List (Int × Int)) (t : Int × Int) : (Sl.insR l t).length = l.length + 1 := by
  have := Sl.pos_le l t
  unfold Sl.insR
  rw [List.length_append, List.length_append, List.length_take, List.length_drop, List.length_singleton]
  omega
/-- What holds at each round's head. -/
def PutAt (xs : List (Int × Int)) (t0 t1 : Int) (w : World) (m : List (Int × Int)) (u : Value) (wr : World) : Prop := OwnTs wr (w.heap.size + 1) u m ∧ Ext (w.alloc (.cells #[.int .i64 t0, .int .i64 t1] 76)) wr
theorem PutAt.ext {xs : List (Int × Int)} {t0 t1 : Int} {w : World} {m : List (Int × Int)} {u : Value} {wr w' : World} (h : PutAt xs t0 t1 w m u wr) (hx : Ext wr w') : PutAt xs t0 t1 w m u w' := ⟨OwnRows.ext h.1 hx, h.2.trans hx⟩
theorem PutAt.add {xs : List (Int × Int)} {t0 t1 : Int} {w : World} {m : List (Int × Int)} {u : Value} {wr : World} (p0 p1 : Int) (h : PutAt xs t0 t1 w m u wr) (hl : m.length ≤ 100000) :
    ∃ u' w', (Builtin.append_ #[30, 30] 30 #[u, .slice (some ⟨wr.heap.size, 0, none⟩) 1 1]).run Try.prog (wr.alloc (.cells #[.int .i64 p0, .int .i64 p1] 76)) = .ok u' w' ∧ PutAt xs t0 t1 w (m ++ [(p0, p1)]) u' w' := by
  obtain ⟨j0, J0, J1, J2, J3⟩ := info_parts Try.infoTimer
  have hs := h.2.size
  rw [World.size_alloc] at hs
  obtain ⟨u', w', hr, ho, hg, _⟩ := OwnRows.append2 (P := Try.prog) 30 Try.underlying30 J0 J1 J2 J3 rfl (by decide) pairL_len pairL_one (OwnRows.alloc h.1 (.cells #[.int .i64 p0, .int .i64 p1] 76)) (ys := [(p0, p1)]) (pairs_one wr p0 p1).rows (by unfold maxLen; simp; omega) (by simp; omega) (by simp; omega)
  exact ⟨u', w', hr, ho, Below.grown (h.2.alloc _) hg (by rw [World.size_alloc, World.size_alloc]; omega) fun k hk => by rw [World.size_alloc]; exact (OwnRows.lt h.1 k hk).1⟩
def PutPost (xs : List (Int × Int)) (t : Int × Int) (ok : Bool) (w : World) (e : Ending) (w' : World) : Prop := ∃ u, e = .returned (.tuple #[u, .bool ok]) ∧ PairsAt w' u (if ok then Sl.ins xs t else []) ∧ Ext w w'
end Go.Proofs.Ytogcfndhcphpaaa
