/-
  Several texts in one: Rg, Sa, Ta, Rp, Rq.
-/
import Derived.Test.YtogcfndhcphpaaaA01
import Derived.Orders
import Derived.Deep.QuietTactic
import Derived.BigQuiet
import Derived.Test.YtogcfndhcphpaaaA02
/-
  A statement whose order Go leaves open, taken in the text's order: where each operation gives one value in every world that meets a condition, and leaves a world that meets it, the order makes no difference. No program is named; the conditions stand in the theorems.
-/
set_option linter.unusedVariables false
set_option linter.unusedSimpArgs false
namespace Go.Proofs.Ytogcfndhcphpaaa
open Go.RowKit

section
variable {P : Program} {ops : Array Oper} {Q : Exit → Act → World → Prop} {md : Region.Mode} {S : World → Prop}

/-- What an operation came to: the value v, in a world that meets S. -/
def GivesV (P : Program) (S : World → Prop) (v : Value) : Result Next → Prop
  | .ok (.value u) w' => u = v ∧ S w'
  | .ok .skip w' => v = undef ∧ S w'
  | .ok (.enter f args) w' => Calls P f args w' fun e w'' => e = .returned v ∧ S w''
  | _ => False

/-- In every world that meets S the operation gives v, or it is not wanted. -/
def Tame (P : Program) (ops : Array Oper) (S : World → Prop) (o : Oper) (v : Value) (a : Act) : Prop :=
  (Region.wanted o (yielded ops a.tmps) = true ∧ ∀ w, S w → GivesV P S v ((execOp a.eval o).run P w)) ∨
  (Region.wanted o (yielded ops a.tmps) = false ∧ v = undef)

theorem Tame.same {o : Oper} {v : Value} {a b : Act} (h : Tame P ops S o v a) (he : execOp b.eval o = execOp a.eval o)
    (hw : Region.wanted o (yielded ops b.tmps) = Region.wanted o (yielded ops a.tmps)) : Tame P ops S o v b := by
  unfold Tame at *
  rw [he, hw]
  exact h

theorem Tame.op {i : Nat} {o : Oper} {v : Value} {a : Act} (hi : ops[i]? = some o) (h : Tame P ops S o v a)
    {K : Act → World → Prop} {w : World} (hS : S w) (hK : ∀ w', S w' → K (a.put o.dst v) w') : wpOp P ops Q i K a w := by
  unfold wpOp
  simp only [hi]
  rcases h with ⟨hw, hv⟩ | ⟨hw, rfl⟩
  · simp only [hw, if_true]
    left
    have h2 := hv w hS
    unfold Oper.wp
    generalize (execOp a.eval o).run P w = r at *
    cases r with
    | halt x w' => exact h2.elim
    | ok n w' =>
      cases n with
      | value u => obtain ⟨rfl, h3⟩ := h2; exact hK _ h3
      | skip => obtain ⟨rfl, h3⟩ := h2; exact hK _ h3
      | enter f args =>
        refine Calls.mono h2 fun e w'' he => ?_
        obtain ⟨rfl, h3⟩ := he
        exact hK _ h3
      | _ => exact h2.elim
  · simp only [hw, Bool.false_eq_true, if_false]
    exact hK _ hS

/-- Behind an operation that is apart the first one is as tame as it was. -/
theorem op_apart {j : Nat} {oi oj : Oper} {v : Value} (hj : ops[j]? = some oj) (hap : oi.apart ops oj = true)
    (hsi : ∀ cs b, oi.op ≠ .select cs b) (hsj : ∀ cs b, oj.op ≠ .select cs b)
    (hQ : ∀ c a w, Q (.panic c) (a.put oi.dst v) w → Q (.panic c) a w) {K : Act → World → Prop} {a : Act} {w : World}
    (hy : Tame P ops S oi v a) (h : wpOp P ops Q j K (a.put oi.dst v) w) :
    wpOp P ops Q j (fun a' w' => Tame P ops S oi v a' ∧ K (a'.put oi.dst v) w') a w := by
  obtain ⟨h1, h2, h3⟩ := Oper.apart_spec hap
  have keep : ∀ u, Tame P ops S oi v (a.put oj.dst u) := fun u => hy.same (execOp_put oi hsi a oj.dst u h3) (wanted_put oi a oj.dst u h3)
  have swap : ∀ u w', K ((a.put oi.dst v).put oj.dst u) w' → Tame P ops S oi v (a.put oj.dst u) ∧ K ((a.put oj.dst u).put oi.dst v) w' :=
    fun u w' hk => ⟨keep u, by rw [← Act.put_comm a v u h2]; exact hk⟩
  unfold wpOp at *
  simp only [hj] at *
  rw [wanted_put oj a oi.dst v h1] at h
  split
  · rename_i hw
    simp only [hw, if_true] at h
    rcases h with h | ⟨hasks, hlets⟩
    · left
      unfold Oper.wp at *
      rw [execOp_put oj hsj a oi.dst v h1] at h
      generalize (execOp a.eval oj).run P w = r at *
      cases r with
      | ok n w' =>
        cases n <;> simp only [Oper.upon] at h ⊢
        case value u => exact swap u w' h
        case skip => exact swap _ w' h
        case defer d =>
          have kd : Tame P ops S oi v { a with defers := d :: a.defers } := hy.same rfl rfl
          refine ⟨kd.same (execOp_put oi hsi _ oj.dst _ h3) (wanted_put oi _ oj.dst _ h3), ?_⟩
          rw [← Act.put_comm _ v undef h2, ← Act.put_defers]
          exact h
        case enter f args =>
          refine Calls.mono h fun e w'' he => ?_
          cases e with
          | returned u => exact swap u w'' he
          | panicked c => exact hQ _ _ _ he
          | outgrown => exact he
        case row row args => exact Rows.mono h fun u w'' he => swap u w'' he
      | halt x w' =>
        cases x <;> simp only [Oper.upon] at h ⊢
        case panic u => exact hQ _ _ _ h
    · right
      unfold Oper.asks at *
      rw [execOp_put oj hsj a oi.dst v h1] at hasks
      exact ⟨hasks, hlets⟩
  · rename_i hw
    simp only [hw] at h
    exact swap _ w h

/-- Whatever order is picked from here on, in whatever world that meets S. -/
def wpAll (P : Program) (md : Region.Mode) (ops : Array Oper) (Q : Exit → Act → World → Prop) (S : World → Prop) : Nat → Array Bool → Act → Prop
  | 0, listed, a => Region.ready md ops listed = [] ∧ ∀ w, S w → Q .normal a w
  | f + 1, listed, a => (Region.ready md ops listed = [] → ∀ w, S w → Q .normal a w) ∧
      ∀ i ∈ Region.ready md ops listed, ∀ w, S w → wpOp P ops Q i (fun a' w' => S w' ∧ wpAll P md ops Q S f (listed.setIfInBounds i true) a') a w

theorem wpAny_of_all : ∀ (f : Nat) (listed : Array Bool) (a : Act) (w : World), S w → wpAll P md ops Q S f listed a → wpAny P md ops Q f listed a w
  | 0, _, _, w, hS, h => ⟨h.1, h.2 w hS⟩
  | f + 1, _, _, w, hS, h => ⟨fun h0 => h.1 h0 w hS, fun i hi => wpOp_mono (fun a' w' h' => wpAny_of_all f _ a' w' h'.1 h'.2) (h.2 i hi w hS)⟩

theorem all_first {i : Nat} {oi : Oper} {v : Value} (hi : ops[i]? = some oi) (hsel : ∀ (j : Nat) (o : Oper) cs b, ops[j]? = some o → o.op ≠ .select cs b)
    (hQ : ∀ c a w, Q (.panic c) (a.put oi.dst v) w → Q (.panic c) a w) :
    ∀ (f : Nat) (listed : Array Bool) (a : Act),
      (∀ j oj, ops[j]? = some oj → j ≠ i → listed.getD j true = false → (∀ e ∈ oj.after, Region.binds md e = true → e.on ≠ i) → oi.apart ops oj = true) →
      i ∈ Region.ready md ops listed → Tame P ops S oi v a →
      wpAll P md ops Q S f (listed.setIfInBounds i true) (a.put oi.dst v) → wpAll P md ops Q S (f + 1) listed a := by
  intro f
  induction f with
  | zero =>
    intro listed a _ hr hy H
    refine ⟨fun h => (by rw [h] at hr; cases hr), fun j hj w hS => ?_⟩
    by_cases hji : j = i
    · subst hji
      exact hy.op hi hS fun w' h' => ⟨h', H⟩
    · have h0 := ready_mono hj hji
      rw [H.1] at h0
      cases h0
  | succ f ih =>
    intro listed a hfree hr hy H
    refine ⟨fun h => (by rw [h] at hr; cases hr), fun j hj w hS => ?_⟩
    by_cases hji : j = i
    · subst hji
      exact hy.op hi hS fun w' h' => ⟨h', H⟩
    · obtain ⟨hjun, oj, hoj, hall⟩ := mem_ready.1 hj
      have hno : ∀ e ∈ oj.after, Region.binds md e = true → e.on ≠ i := fun e he hb heq => by
        have h1 := hall e he hb
        have h0 := (mem_ready.1 hr).1
        rw [heq] at h1
        rcases Nat.lt_or_ge i listed.size with h' | h'
        · simp [h'] at h0 h1; rw [h0] at h1; cases h1
        · simp [Array.getElem?_eq_none h'] at h1
      have h2 := op_apart hoj (hfree j oj hoj hji hjun hno) (fun cs b => hsel i oi cs b hi) (fun cs b => hsel j oj cs b hoj) hQ hy (H.2 j (ready_mono hj hji) w hS)
      refine wpOp_mono (fun a' w' h3 => ⟨h3.2.1, ih (listed.setIfInBounds j true) a' (fun k ok hk hki hun hn => ?_) (ready_mono hr (Ne.symm hji)) h3.1 ?_⟩) h2
      · refine hfree k ok hk hki ?_ hn
        by_cases hjk : j = k
        · subst hjk; exact hjun
        · rw [getD_set_ne true hjk] at hun; exact hun
      · rw [Array.setIfInBounds_comm _ _ hji]
        exact h3.2.2

/-- The next operation of the text. -/
theorem all_take {i : Nat} {oi : Oper} {v : Value} {f : Nat} {listed : Array Bool} {a : Act} (hi : ops[i]? = some oi)
    (hs : Region.noSelect ops = true) (hf : Region.free md ops listed i = true) (hr : (Region.ready md ops listed).contains i = true)
    (hQ : ∀ c a w, Q (.panic c) (a.put oi.dst v) w → Q (.panic c) a w) (hy : Tame P ops S oi v a)
    (h : wpAll P md ops Q S f (listed.setIfInBounds i true) (a.put oi.dst v)) : wpAll P md ops Q S (f + 1) listed a :=
  all_first hi (Region.noSelect_spec hs) hQ f listed a (Region.free_spec hi hf) (by simpa using hr) hy h

theorem all_done {listed : Array Bool} {a : Act} (hr : Region.ready md ops listed = []) (h : ∀ w, S w → Q .normal a w) : ∀ f, wpAll P md ops Q S f listed a
  | 0 => ⟨hr, h⟩
  | _ + 1 => ⟨fun _ => h, by rw [hr]; simp⟩

/-- The beginning. -/
theorem region_all (S : World → Prop) {id : Nat} {a : Act} {w : World} (hm : P.follows .mixedOrders = true) (hS : S w.drew)
    (h : wpAll P .any ops Q S ops.size (Array.replicate ops.size false) a) : (Code.region id ops true).wp P Q a w :=
  wp_region_any hm (wpAny_of_all _ _ _ _ hS h)

theorem Tame.yes {o : Oper} {v : Value} {a : Act} (hw : Region.wanted o (yielded ops a.tmps) = true) (h : ∀ w, S w → GivesV P S v ((execOp a.eval o).run P w)) : Tame P ops S o v a := .inl ⟨hw, h⟩
theorem Tame.no {o : Oper} {a : Act} (hw : Region.wanted o (yielded ops a.tmps) = false) : Tame P ops S o undef a := .inr ⟨hw, rfl⟩
theorem gives_mk {u v : Value} {w : World} (h : u = v) (hS : S w) : GivesV P S v (.ok (.value u) w) := ⟨h, hS⟩
theorem gives_call {f : FuncId} {args : Array Value} {v : Value} {w : World} (h : Calls P f args w fun e w'' => e = .returned v ∧ S w'') : GivesV P S v (.ok (.enter f args) w) := h
end

end Go.Proofs.Ytogcfndhcphpaaa
/-
  Timers: what they read as, which stands ahead, which lists may be; and the walk of before.
-/
set_option linter.unusedVariables false
set_option linter.unusedSimpArgs false
namespace Go.Proofs.Ytogcfndhcphpaaa
open Go.RowKit

/-- A slice of pairs of numbers. -/
def PairsAt (w : World) (v : Value) (xs : List (Int × Int)) : Prop :=
  ∃ A c, v = .slice A xs.length c ∧ xs.length ≤ c ∧ (0 < xs.length → ∃ b o, A = some ⟨b, o, none⟩ ∧ b < w.heap.size ∧ ∀ j p, xs[j]? = some p → w.cell? ⟨b, o + j * 2, none⟩ = some (.int .i64 p.1) ∧ w.cell? ⟨b, o + j * 2 + 1, none⟩ = some (.int .i64 p.2))
theorem PairsAt.ext {w w' : World} {v : Value} {xs : List (Int × Int)} (h : PairsAt w v xs) (hx : Ext w w') : PairsAt w' v xs := by
  obtain ⟨A, c, rfl, hc, hA⟩ := h
  refine ⟨A, c, rfl, hc, fun h0 => ?_⟩
  obtain ⟨b, o, hb, hlt, hc⟩ := hA h0
  exact ⟨b, o, hb, Nat.lt_of_lt_of_le hlt hx.size, fun j x hj => by rw [Below.cell hx hlt, Below.cell hx hlt]; exact hc j x hj⟩
/-- A pair as one value. -/
def pairV (p : Int × Int) : Value := .agg #[.int .i64 p.1, .int .i64 p.2]
def i64ok (x : Int) : Prop := -9223372036854775808 ≤ x ∧ x ≤ 9223372036854775807

def Sl.lt (a b : Int × Int) : Prop := a.1 < b.1 ∨ a.1 = b.1 ∧ a.2 < b.2
instance (a b : Int × Int) : Decidable (Sl.lt a b) := by unfold Sl.lt; exact inferInstance
def Sl.fit (p : Int × Int) : Prop := 0 ≤ p.1 ∧ p.1 < 4611686018427387904 ∧ 1 ≤ p.2
instance (p : Int × Int) : Decidable (Sl.fit p) := by unfold Sl.fit; exact inferInstance
theorem Sl.lt_trans {a b c : Int × Int} (h : Sl.lt a b) (k : Sl.lt b c) : Sl.lt a c := by unfold Sl.lt at *; omega
def Sl.May (l : List (Int × Int)) : Prop := (∀ p ∈ l, Sl.fit p) ∧ l.Pairwise Sl.lt ∧ (l.map Prod.snd).Nodup
instance (l : List (Int × Int)) : Decidable (Sl.May l) := by unfold Sl.May; exact inferInstance

theorem Sl.May.nil : Sl.May [] := ⟨by simp, by simp, by simp⟩
theorem Sl.May.sub {l m : List (Int × Int)} (h : Sl.May m) (hs : l.Sublist m) : Sl.May l :=
  ⟨fun p hp => h.1 p (hs.subset hp), h.2.1.sublist hs, h.2.2.sublist (hs.map _)⟩
theorem Sl.may_snoc {l : List (Int × Int)} {p : Int × Int} : Sl.May (l ++ [p]) ↔ Sl.May l ∧ Sl.fit p ∧ (∀ q, l.getLast? = some q → Sl.lt q p) ∧ p.2 ∉ l.map Prod.snd := by
  constructor
  · intro h
    refine ⟨h.sub (List.sublist_append_left _ _), h.1 p (by simp), fun q hq => ?_, ?_⟩
    · have := (List.pairwise_append.1 h.2.1).2.2 q (List.mem_of_getLast? hq) p (by simp)
      exact this
    · have h3 := h.2.2
      rw [List.map_append, List.nodup_append] at h3
      intro hm
      exact h3.2.2 _ hm p.2 (by simp) rfl
  · rintro ⟨h, hf, hlt, hn⟩
    refine ⟨fun q hq => ?_, ?_, ?_⟩
    · rcases List.mem_append.1 hq with hq | hq
      · exact h.1 q hq
      · rw [List.mem_singleton.1 hq]; exact hf
    · refine List.pairwise_append.2 ⟨h.2.1, by simp, fun a ha b hb => ?_⟩
      rw [List.mem_singleton.1 hb]
      rcases List.eq_nil_or_concat l with rfl | ⟨l', z, rfl⟩
      · simp at ha
      · have hz := hlt z (by simp)
        rw [List.concat_eq_append] at ha h
        rcases List.mem_append.1 ha with ha | ha
        · exact Sl.lt_trans ((List.pairwise_append.1 h.2.1).2.2 a ha z (by simp)) hz
        · rw [List.mem_singleton.1 ha]; exact hz
    · rw [List.map_append, List.nodup_append]
      refine ⟨h.2.2, by simp, fun a ha b hb => ?_⟩
      simp at hb
      subst hb
      intro he
      exact hn (he ▸ ha)

set_option maxRecDepth 100000 in
set_option maxHeartbeats 1000000 in
theorem before_any (a b : Int × Int) (w : World) : Calls Try.prog 124 #[pairV a, pairV b] w fun e w' => e = .returned (.bool (decide (Sl.lt a b))) ∧ Ext w w' := by
  obtain ⟨a0, a1⟩ := a
  obtain ⟨b0, b1⟩ := b
  unfold pairV
  simp only
  by_cases h0 : a0 < b0
  · rw [show decide (Sl.lt (a0, a1) (b0, b1)) = true from decide_eq_true (Or.inl h0)]
    go_enter Try.func124, Try.ntmps124
    go_wp2
    go_ret
    exact ⟨rfl, ((Ext.refl _).alloc _).alloc _⟩
  · by_cases h1 : a0 = b0
    · subst h1
      rw [show decide (Sl.lt (a0, a1) (a0, b1)) = decide (a1 < b1) from decide_eq_decide.2 (show (a0 < a0 ∨ a0 = a0 ∧ a1 < b1) ↔ a1 < b1 by omega)]
      go_enter Try.func124, Try.ntmps124
      go_wp2
      go_ret
      exact ⟨rfl, ((Ext.refl _).alloc _).alloc _⟩
    · have hb : (a0 == b0) = false := by simpa using h1
      rw [show decide (Sl.lt (a0, a1) (b0, b1)) = false from decide_eq_false (show ¬ (a0 < b0 ∨ a0 = b0 ∧ a1 < b1) by omega)]
      go_enter Try.func124, Try.ntmps124
      go_wp2
      go_ret
      exact ⟨rfl, ((Ext.refl _).alloc _).alloc _⟩

end Go.Proofs.Ytogcfndhcphpaaa
/-
  Plain programs and states of the scheduler: which may be. No function of the program is named.
-/
set_option linter.unusedVariables false
set_option linter.unusedSimpArgs false
namespace Go.Proofs.Ytogcfndhcphpaaa

/-- Each element, by its place. -/
def allIx {α : Type} (f : Nat → α → Bool) : Nat → List α → Bool
  | _, [] => true
  | i, x :: l => f i x && allIx f (i + 1) l
theorem allIx_iff {α : Type} {f : Nat → α → Bool} : ∀ {l : List α} {i : Nat}, allIx f i l = true ↔ ∀ (j : Nat) x, l[j]? = some x → f (i + j) x = true
  | [], i => by simp [allIx]
  | x :: l, i => by
    rw [allIx, Bool.and_eq_true, allIx_iff (l := l)]
    constructor
    · rintro ⟨h1, h2⟩ j y hj
      match j, hj with
      | 0, hj => simp at hj; subst hj; exact h1
      | j + 1, hj => have := h2 j y (by simpa using hj); rwa [Nat.add_assoc, Nat.add_comm 1 j] at this
    · intro h
      exact ⟨h 0 x rfl, fun j y hj => by have := h (j + 1) y (by simpa using hj); rwa [Nat.add_assoc, Nat.add_comm 1 j]⟩
theorem allIx_no {α : Type} {f : Nat → α → Bool} {l : List α} {j : Nat} {x : α} (hj : l[j]? = some x) (h : f j x = false) : allIx f 0 l = false := by
  cases ha : allIx f 0 l with
  | false => rfl
  | true => have := allIx_iff.1 ha j x hj; rw [Nat.zero_add, h] at this; cases this
theorem allIx_yes {α : Type} {f : Nat → α → Bool} {l : List α} (h : ∀ (j : Nat) x, l[j]? = some x → f j x = true) : allIx f 0 l = true := allIx_iff.2 fun j x hj => by rw [Nat.zero_add]; exact h j x hj
theorem all_no {α : Type} {f : α → Bool} {l : List α} {j : Nat} {x : α} (hj : l[j]? = some x) (h : f x = false) : l.all f = false := by
  cases ha : l.all f with
  | false => rfl
  | true => have := List.all_eq_true.1 ha x (List.mem_of_getElem? hj); rw [h] at this; cases this
theorem all_yes {α : Type} {f : α → Bool} {l : List α} (h : ∀ (j : Nat) x, l[j]? = some x → f x = true) : l.all f = true := List.all_eq_true.2 fun x hx => by
  obtain ⟨j, hj⟩ := List.mem_iff_getElem?.1 hx
  exact h j x hj

namespace Pg
def most (n : Int) (d : Int) : Int := if d = 1 then n - 1 else if d = 3 ∨ d = 4 then 3 else if d = 6 then 1000 else 0
def okI (n : Int) (x : Int × Int) : Bool := decide (0 ≤ x.1 ∧ x.1 ≤ 6 ∧ 0 ≤ x.2 ∧ x.2 ≤ most n x.1)
def okC (n : Int) (l : List (Int × Int)) : Bool := decide (l.length ≤ 20) && l.all (okI n)
def may (p : List (List (Int × Int))) : Bool := decide (1 ≤ p.length ∧ p.length ≤ 8) && p.all (okC p.length)
def small (p : List (List (Int × Int))) : Bool := (p.all fun l => decide (l.length ≤ 30)) && decide (p.length ≤ 12)
theorem may_iff {p : List (List (Int × Int))} : may p = true ↔ 1 ≤ p.length ∧ p.length ≤ 8 ∧ ∀ l ∈ p, l.length ≤ 20 ∧ ∀ x ∈ l, 0 ≤ x.1 ∧ x.1 ≤ 6 ∧ 0 ≤ x.2 ∧ x.2 ≤ most p.length x.1 := by
  simp [may, okC, okI, and_assoc]
theorem small_iff {p : List (List (Int × Int))} : small p = true ↔ (∀ l ∈ p, l.length ≤ 30) ∧ p.length ≤ 12 := by simp [small]
end Pg

/-- A goroutine. -/
structure Gr where
  func : Int
  pc : Int
  st : Int
  m : Int
  seq : Int
/-- A processor. -/
structure Pr where
  m : Int
  next : Int
  ring : Ri
  seq : Int
/-- A state. -/
structure St where
  prog : List (List (Int × Int))
  gs : List Gr
  ps : List Pr
  ms : List (Int × Int)
  glob : List Int
  c0 : Int
  c1 : Int
  c2 : Int
  c3 : Int
  w0 : List Int
  w1 : List Int
  w2 : List Int
  w3 : List Int
  timers : List (Int × Int)
  clock : Int
  procs : Int
namespace St
def low (n : Int) : Bool := decide (0 ≤ n ∧ n < 2305843009213693952)
def times (l : List Int) (n : Int) : Nat := l.count n
def queueOf (p : Pr) : List Int := (if p.next ≠ 0 then [p.next] else []) ++ p.ring.list
def runs (s : St) : List Int := s.ps.flatMap queueOf ++ s.glob
def waits (s : St) : List Int := s.w0 ++ s.w1 ++ s.w2 ++ s.w3
def waiters (s : St) : List Int := s.waits ++ s.timers.map Prod.snd
def onM (s : St) (b : Bool) : List Int := (s.ms.filter fun m => m.2 != 0 && ((m.1 != 0) == b)).map Prod.snd
def good (s : St) (g : Gr) : Bool := decide (0 ≤ g.func ∧ g.func < s.prog.length ∧ 0 ≤ g.pc) && low g.seq && decide (g.pc ≤ (s.prog.getD g.func.toNat []).length)
def goods (s : St) : Bool := s.gs.all s.good
def holdP (s : St) (i : Nat) (p : Pr) : Bool :=
  p.ring.may && low p.seq && decide (0 ≤ p.m ∧ p.m ≤ s.ms.length) && decide (0 < p.m → (s.ms.getD (p.m - 1).toNat (0, 0)).1 = i + 1) && !(decide (s.procs ≤ i) && (decide (0 < p.m) || decide (p.next ≠ 0) || decide (0 < p.ring.n)))
def nilP : Pr := ⟨0, 0, ⟨[], 0, 0⟩, 0⟩
def nilG : Gr := ⟨0, 0, 0, 0, 0⟩
def holdM (s : St) (i : Nat) (m : Int × Int) : Bool := decide (0 ≤ m.1 ∧ m.1 ≤ s.ps.length) && decide (0 < m.1 → (s.ps.getD (m.1 - 1).toNat nilP).m = i + 1)
def holds (s : St) : Bool := allIx s.holdP 0 s.ps && allIx s.holdM 0 s.ms
def within (l : List Int) (n : Int) : Bool := l.all fun x => decide (1 ≤ x ∧ x ≤ n)
/-- How often a G of a status is to stand among the runnable ones, on Ms with a P, among those that wait, on Ms without. -/
def want (st i : Int) : Nat := if st = i then 1 else 0
def stands (s : St) (i : Nat) (g : Gr) : Bool :=
  decide (1 ≤ g.st ∧ g.st ≤ 5) && decide (times s.runs (i + 1) = want g.st 1 ∧ times (s.onM true) (i + 1) = want g.st 2 ∧ times s.waiters (i + 1) = want g.st 3 ∧ times (s.onM false) (i + 1) = want g.st 4) &&
  (if g.st ≠ 2 ∧ g.st ≠ 4 then decide (g.m = 0) else decide (1 ≤ g.m ∧ g.m ≤ s.ms.length) && decide ((s.ms.getD (g.m - 1).toNat (0, 0)).2 = i + 1))
def okCnt (c : Int) (l : List Int) : Bool := decide (0 ≤ c ∧ c ≤ 1000000) && !(decide (0 < c) && decide (0 < l.length))
def counts (s : St) : Bool := okCnt s.c0 s.w0 && okCnt s.c1 s.w1 && okCnt s.c2 s.w2 && okCnt s.c3 s.w3
def whole (s : St) : Bool := Pg.may s.prog && decide (1 ≤ s.gs.length ∧ s.gs.length ≤ 1000 ∧ s.ps.length = 8 ∧ 1 ≤ s.procs ∧ s.procs ≤ 8 ∧ s.ms.length ≤ 1000) && low s.clock && decide (Sl.May s.timers)
def allIn (s : St) : Bool := within s.runs s.gs.length && within s.waiters s.gs.length && within (s.onM true) s.gs.length && within (s.onM false) s.gs.length
def may (s : St) : Bool := s.whole && s.goods && s.holds && s.counts && s.allIn && allIx s.stands 0 s.gs
end St
end Go.Proofs.Ytogcfndhcphpaaa
/-
  A statement whose order Go leaves open and in which some operations make memory, in an order that is forced: the others are taken first, in the text's order; then those that make memory, one by one. No program is named; the conditions stand in the theorems.
-/
set_option linter.unusedVariables false
set_option linter.unusedSimpArgs false
namespace Go.Proofs.Ytogcfndhcphpaaa
open Go.RowKit
section
variable {P : Program} {ops : Array Oper} {Q : Exit → Act → World → Prop} {md : Region.Mode}
/-- What is listed has all that it waits for listed. -/
def Closed (md : Region.Mode) (ops : Array Oper) (listed : Array Bool) : Prop := ∀ (j : Nat) (o : Oper), ops[j]? = some o → listed.getD j false = true → ∀ e ∈ o.after, Region.binds md e = true → listed.getD e.on false = true
theorem Closed.set {listed : Array Bool} {j : Nat} {oj : Oper} (h : Closed md ops listed) (hoj : ops[j]? = some oj) (hall : ∀ e ∈ oj.after, Region.binds md e = true → listed.getD e.on false = true) : Closed md ops (listed.setIfInBounds j true) := by
  intro i o hi hl e he hb
  by_cases hij : j = i
  · subst hij
    rw [hoj] at hi
    injection hi with hi
    subst hi
    exact getD_set_true (hall e he hb)
  · rw [getD_set_ne false hij] at hl
    exact getD_set_true (h i o hi hl e he hb)
theorem GivesV.mono {S T : World → Prop} {v : Value} {r : Result Next} (h : GivesV P S v r) (hs : ∀ w, S w → T w) : GivesV P T v r := by
  unfold GivesV at *
  cases r with
  | halt x w => exact h
  | ok n w =>
    cases n with
    | value u => exact ⟨h.1, hs _ h.2⟩
    | skip => exact ⟨h.1, hs _ h.2⟩
    | enter f args => exact Calls.mono h fun e w' he => ⟨he.1, hs _ he.2⟩
    | _ => exact h
/-- In every world that meets U the operation gives v, and turns nothing; or it is not wanted. -/
def Still (P : Program) (ops : Array Oper) (U : World → Prop) (o : Oper) (v : Value) (a : Act) : Prop :=
  (Region.wanted o (yielded ops a.tmps) = true ∧ ∀ w, U w → GivesV P (fun w' => w' = w) v ((execOp a.eval o).run P w)) ∨
  (Region.wanted o (yielded ops a.tmps) = false ∧ v = undef)
theorem Still.tame {U S : World → Prop} {o : Oper} {v : Value} {a : Act} (h : Still P ops U o v a) (hs : ∀ w, S w → U w) : Tame P ops S o v a := by
  rcases h with ⟨h1, h2⟩ | h
  · exact .inl ⟨h1, fun w hw => (h2 w (hs w hw)).mono fun w' h => h ▸ hw⟩
  · exact .inr h
theorem Still.yes {U : World → Prop} {o : Oper} {v : Value} {a : Act} (hw : Region.wanted o (yielded ops a.tmps) = true) (h : ∀ w, U w → GivesV P (fun w' => w' = w) v ((execOp a.eval o).run P w)) : Still P ops U o v a := .inl ⟨hw, h⟩
theorem Still.no {U : World → Prop} {o : Oper} {a : Act} (hw : Region.wanted o (yielded ops a.tmps) = false) : Still P ops U o undef a := .inr ⟨hw, rfl⟩

/-- What holds in every phase. -/
def Cov (U S : World → Prop) (ps : List (Nat × (Value → World → Prop))) : Prop := (∀ w, S w → U w) ∧ ∀ p ∈ ps, ∀ u w, p.2 u w → U w
theorem Cov.next {U S : World → Prop} {k : Nat} {T : Value → World → Prop} {ps : List (Nat × (Value → World → Prop))} (h : Cov U S ((k, T) :: ps)) (u : Value) : Cov U (T u) ps :=
  ⟨h.2 (k, T) (by simp) u, fun p hp => h.2 p (List.mem_cons_of_mem _ hp)⟩

end
end Go.Proofs.Ytogcfndhcphpaaa
/-
  A statement whose order Go leaves open: what turns nothing is taken first, in the text's order; each operation that turns the world says what holds behind it. C is what the loads need; it holds until operation z (a store) is carried out. No program is named.
-/
set_option linter.unusedVariables false
set_option linter.unusedSimpArgs false
namespace Go.Proofs.Ytogcfndhcphpaaa
open Go.RowKit

section
variable {P : Program} {ops : Array Oper} {Q : Exit → Act → World → Prop} {md : Region.Mode} {z : Nat} {C : World → Prop}
theorem Still.same {U : World → Prop} {o : Oper} {v : Value} {a b : Act} (h : Still P ops U o v a) (he : execOp b.eval o = execOp a.eval o)
    (hw : Region.wanted o (yielded ops b.tmps) = Region.wanted o (yielded ops a.tmps)) : Still P ops U o v b := by
  unfold Still at *
  rw [he, hw]
  exact h

end
end Go.Proofs.Ytogcfndhcphpaaa
