/-
  Several texts in one: Rp, Rq.
-/
import Derived.Test.YtogcfndhcphpaaaK03
/-
  A statement whose order Go leaves open and in which some operations make memory, in an order that is forced: the others are taken first, in the text's order; then those that make memory, one by one. No program is named; the conditions stand in the theorems.
-/
set_option linter.unusedVariables false
set_option linter.unusedSimpArgs false
namespace Go.Proofs.Ytogcfndhcphpaaa
open Go.RowKit

theorem run_makeMap_n {P : Program} {t k e : TypeId} (hu : P.underlying t = some (.map k e)) (q : IntKind) (n : Int) (w : World) : (Instr.makeMap t (some (.int q n))).run P w = .ok (.map (some w.heap.size)) (w.alloc (.map #[] 0)) := by
  simp [Instr.makeMap, run_underlying hu, asInt, asIntOf, Result.andThen]

section
variable {P : Program} {ops : Array Oper} {Q : Exit → Act → World → Prop} {md : Region.Mode}

/-- Behind an operation that is apart the first one is as tame as it was, in whatever worlds. -/
theorem op_apart_all {j : Nat} {oi oj : Oper} {v : Value} {a : Act} {w : World} (hj : ops[j]? = some oj) (hap : oi.apart ops oj = true)
    (hsi : ∀ cs b, oi.op ≠ .select cs b) (hsj : ∀ cs b, oj.op ≠ .select cs b)
    (hQ : ∀ c a w, Q (.panic c) (a.put oi.dst v) w → Q (.panic c) a w) {K : Act → World → Prop}
    (h : wpOp P ops Q j K (a.put oi.dst v) w) :
    wpOp P ops Q j (fun a' w' => (∀ S, Tame P ops S oi v a → Tame P ops S oi v a') ∧ K (a'.put oi.dst v) w') a w := by
  obtain ⟨h1, h2, h3⟩ := Oper.apart_spec hap
  have keep : ∀ u S, Tame P ops S oi v a → Tame P ops S oi v (a.put oj.dst u) := fun u S hy => hy.same (execOp_put oi hsi a oj.dst u h3) (wanted_put oi a oj.dst u h3)
  have swap : ∀ u w', K ((a.put oi.dst v).put oj.dst u) w' → (∀ S, Tame P ops S oi v a → Tame P ops S oi v (a.put oj.dst u)) ∧ K ((a.put oj.dst u).put oi.dst v) w' :=
    fun u w' hk => ⟨keep u, by rw [← Act.put_comm a v u h2]; exact hk⟩
  unfold wpOp at *
  simp only [hj] at *
  rw [wanted_put oj a oi.dst v h1] at h
  split
  · rename_i hw
    simp only [hw, if_true] at h
    rcases h with h | ⟨hasks, hlets⟩
    · left
      unfold Oper.wp at *
      rw [execOp_put oj hsj a oi.dst v h1] at h
      generalize (execOp a.eval oj).run P w = r at *
      cases r with
      | ok n w' =>
        cases n <;> simp only [Oper.upon] at h ⊢
        case value u => exact swap u w' h
        case skip => exact swap _ w' h
        case defer d =>
          have kd : ∀ S, Tame P ops S oi v a → Tame P ops S oi v { a with defers := d :: a.defers } := fun S hy => hy.same rfl rfl
          refine ⟨fun S hy => (kd S hy).same (execOp_put oi hsi _ oj.dst _ h3) (wanted_put oi _ oj.dst _ h3), ?_⟩
          rw [← Act.put_comm _ v undef h2, ← Act.put_defers]
          exact h
        case enter f args =>
          refine Calls.mono h fun e w'' he => ?_
          cases e with
          | returned u => exact swap u w'' he
          | panicked c => exact hQ _ _ _ he
          | outgrown => exact he
        case row row args => exact Rows.mono h fun u w'' he => swap u w'' he
      | halt x w' =>
        cases x <;> simp only [Oper.upon] at h ⊢
        case panic u => exact hQ _ _ _ h
    · right
      unfold Oper.asks at *
      rw [execOp_put oj hsj a oi.dst v h1] at hasks
      exact ⟨hasks, hlets⟩
  · rename_i hw
    simp only [hw] at h
    exact swap _ w h

/-- Whatever order is picked from here on: S holds now; ps: the operations that turn the world, each with what holds behind it. -/
def wpPh (P : Program) (md : Region.Mode) (ops : Array Oper) (Q : Exit → Act → World → Prop) : (World → Prop) → List (Nat × (Value → World → Prop)) → Nat → Array Bool → Act → Prop
  | S, _, 0, listed, a => Region.ready md ops listed = [] ∧ ∀ w, S w → Q .normal a w
  | S, [], f + 1, listed, a => (Region.ready md ops listed = [] → ∀ w, S w → Q .normal a w) ∧
      ∀ i ∈ Region.ready md ops listed, ∀ w, S w → wpOp P ops Q i (fun a' w' => S w' ∧ wpPh P md ops Q S [] f (listed.setIfInBounds i true) a') a w
  | S, (k, T) :: ps, f + 1, listed, a => (Region.ready md ops listed = [] → ∀ w, S w → Q .normal a w) ∧
      ∀ i ∈ Region.ready md ops listed, ∀ w, S w →
        if i = k then wpOp P ops Q i (fun a' w' => ∃ v, T v w' ∧ wpPh P md ops Q (T v) ps f (listed.setIfInBounds i true) a') a w
        else wpOp P ops Q i (fun a' w' => S w' ∧ wpPh P md ops Q S ((k, T) :: ps) f (listed.setIfInBounds i true) a') a w

theorem wpAny_of_ph : ∀ (f : Nat) (S : World → Prop) (ps : List (Nat × (Value → World → Prop))) (listed : Array Bool) (a : Act) (w : World), S w → wpPh P md ops Q S ps f listed a → wpAny P md ops Q f listed a w
  | 0, S, [], _, _, w, hS, h => ⟨h.1, h.2 w hS⟩
  | 0, S, _ :: _, _, _, w, hS, h => ⟨h.1, h.2 w hS⟩
  | f + 1, S, [], _, _, w, hS, h => ⟨fun h0 => h.1 h0 w hS, fun i hi => wpOp_mono (fun a' w' h' => wpAny_of_ph f S [] _ a' w' h'.1 h'.2) (h.2 i hi w hS)⟩
  | f + 1, S, (k, T) :: ps, _, _, w, hS, h => ⟨fun h0 => h.1 h0 w hS, fun i hi => by
      have h1 := h.2 i hi w hS
      split at h1
      · exact wpOp_mono (fun a' w' ⟨v, h', h''⟩ => wpAny_of_ph f (T v) ps _ a' w' h' h'') h1
      · exact wpOp_mono (fun a' w' h' => wpAny_of_ph f S ((k, T) :: ps) _ a' w' h'.1 h'.2) h1⟩

theorem ph_zero {S : World → Prop} {ps : List (Nat × (Value → World → Prop))} {listed : Array Bool} {a : Act} (h : wpPh P md ops Q S ps 0 listed a) : Region.ready md ops listed = [] := by
  cases ps <;> exact h.1

/-- Operation k waits for operation i, in so many steps. -/
def waitsFor (md : Region.Mode) (ops : Array Oper) : Nat → Nat → Nat → Bool
  | 0, _, _ => false
  | f + 1, k, i =>
    match ops[k]? with
    | some o => o.after.any fun e => Region.binds md e && (e.on == i || waitsFor md ops f e.on i)
    | none => false
/-- What is listed has all that it waits for listed. -/
def Closed (md : Region.Mode) (ops : Array Oper) (listed : Array Bool) : Prop := ∀ (j : Nat) (o : Oper), ops[j]? = some o → listed.getD j false = true → ∀ e ∈ o.after, Region.binds md e = true → listed.getD e.on false = true
def closedB (md : Region.Mode) (ops : Array Oper) (listed : Array Bool) : Bool :=
  (List.range ops.size).all fun j => !(listed.getD j false) || match ops[j]? with | some o => o.after.all (fun e => !(Region.binds md e) || listed.getD e.on false) | none => true
theorem closed_of {listed : Array Bool} (h : closedB md ops listed = true) : Closed md ops listed := by
  intro j o hj hl e he hb
  have hlt : j < ops.size := (Array.getElem?_eq_some_iff.1 hj).1
  unfold closedB at h
  have h1 := List.all_eq_true.1 h j (List.mem_range.2 hlt)
  rw [hj, hl] at h1
  simp only [Bool.not_true, Bool.false_or] at h1
  have h2 := Array.all_eq_true'.1 h1 e he
  rw [hb] at h2
  simpa using h2
theorem Closed.set {listed : Array Bool} {j : Nat} {oj : Oper} (h : Closed md ops listed) (hoj : ops[j]? = some oj) (hall : ∀ e ∈ oj.after, Region.binds md e = true → listed.getD e.on false = true) : Closed md ops (listed.setIfInBounds j true) := by
  intro i o hi hl e he hb
  by_cases hij : j = i
  · subst hij
    rw [hoj] at hi
    injection hi with hi
    subst hi
    exact getD_set_true (hall e he hb)
  · rw [getD_set_ne false hij] at hl
    exact getD_set_true (h i o hi hl e he hb)
theorem waits_listed {listed : Array Bool} (h : Closed md ops listed) : ∀ (f k i : Nat) (o : Oper), ops[k]? = some o → waitsFor md ops f k i = true → (∀ e ∈ o.after, Region.binds md e = true → listed.getD e.on false = true) → listed.getD i false = true
  | 0, _, _, _, _, hw, _ => by simp [waitsFor] at hw
  | f + 1, k, i, o, hk, hw, hd => by
    simp only [waitsFor, hk, Array.any_eq_true, Bool.and_eq_true, Bool.or_eq_true, beq_iff_eq] at hw
    obtain ⟨x, hx, hb, hor⟩ := hw
    have hl := hd _ (Array.getElem_mem hx) hb
    rcases hor with he | hw
    · rw [← he]; exact hl
    · cases ho : ops[(o.after[x]).on]? with
      | none =>
        cases f with
        | zero => simp [waitsFor] at hw
        | succ f => simp [waitsFor, ho] at hw
      | some o' => exact waits_listed h f _ i o' ho hw (h _ o' ho hl)

theorem ph_first (b : Bool) {i : Nat} {oi : Oper} {v : Value} (hi : ops[i]? = some oi) (hsel : ∀ (j : Nat) (o : Oper) cs b, ops[j]? = some o → o.op ≠ .select cs b)
    (hQ : ∀ c a w, Q (.panic c) (a.put oi.dst v) w → Q (.panic c) a w) :
    ∀ (f : Nat) (S : World → Prop) (ps : List (Nat × (Value → World → Prop))) (listed : Array Bool) (a : Act),
      (∀ j oj, ops[j]? = some oj → j ≠ i → listed.getD j true = false → (∀ e ∈ oj.after, Region.binds md e = true → e.on ≠ i) → oi.apart ops oj = true) →
      i ∈ Region.ready md ops listed → Tame P ops S oi v a → (b = true → Closed md ops listed) → (∀ p ∈ ps, p.1 ≠ i ∧ (b = true ∧ waitsFor md ops ops.size p.1 i = true ∨ ∀ u, Tame P ops (p.2 u) oi v a)) →
      wpPh P md ops Q S ps f (listed.setIfInBounds i true) (a.put oi.dst v) → wpPh P md ops Q S ps (f + 1) listed a := by
  intro f
  induction f with
  | zero =>
    intro S ps listed a _ hr hy _ hps H
    have H1 := ph_zero H
    cases ps with
    | nil =>
      refine ⟨fun h => (by rw [h] at hr; cases hr), fun j hj w hS => ?_⟩
      by_cases hji : j = i
      · subst hji
        exact hy.op hi hS fun w' h' => ⟨h', H⟩
      · have h0 := ready_mono hj hji
        rw [H1] at h0
        cases h0
    | cons p ps =>
      obtain ⟨k, T⟩ := p
      refine ⟨fun h => (by rw [h] at hr; cases hr), fun j hj w hS => ?_⟩
      by_cases hji : j = i
      · subst hji
        rw [if_neg (Ne.symm (hps (k, T) (by simp)).1)]
        exact hy.op hi hS fun w' h' => ⟨h', H⟩
      · have h0 := ready_mono hj hji
        rw [H1] at h0
        cases h0
  | succ f ih =>
    intro S ps listed a hfree hr hy hcl hps H
    have free : ∀ j oj, ops[j]? = some oj → j ≠ i → j ∈ Region.ready md ops listed → oi.apart ops oj = true := fun j oj hoj hji hj => by
      obtain ⟨hjun, oj', hoj', hall⟩ := mem_ready.1 hj
      rw [hoj] at hoj'
      injection hoj' with hoj'
      subst hoj'
      refine hfree j oj hoj hji hjun fun e he hb heq => ?_
      have h1 := hall e he hb
      have h0 := (mem_ready.1 hr).1
      rw [heq] at h1
      rcases Nat.lt_or_ge i listed.size with h' | h'
      · simp [h'] at h0 h1; rw [h0] at h1; cases h1
      · simp [Array.getElem?_eq_none h'] at h1
    have keep : ∀ (j : Nat) (oj : Oper), ops[j]? = some oj → j ≠ i → listed.getD j true = false → ∀ k ok, ops[k]? = some ok → k ≠ i → (listed.setIfInBounds j true).getD k true = false → (∀ e ∈ ok.after, Region.binds md e = true → e.on ≠ i) → oi.apart ops ok = true := fun j oj hoj hji hjun k ok hk hki hun hn => by
      refine hfree k ok hk hki ?_ hn
      by_cases hjk : j = k
      · subst hjk; exact hjun
      · rw [getD_set_ne true hjk] at hun; exact hun
    cases ps with
    | nil =>
      refine ⟨fun h => (by rw [h] at hr; cases hr), fun j hj w hS => ?_⟩
      by_cases hji : j = i
      · subst hji
        exact hy.op hi hS fun w' h' => ⟨h', H⟩
      · obtain ⟨hjun, oj, hoj, hall⟩ := mem_ready.1 hj
        have h2 := op_apart hoj (free j oj hoj hji hj) (fun cs b => hsel i oi cs b hi) (fun cs b => hsel j oj cs b hoj) hQ hy (H.2 j (ready_mono hj hji) w hS)
        refine wpOp_mono (fun a' w' h3 => ⟨h3.2.1, ih S [] (listed.setIfInBounds j true) a' (keep j oj hoj hji hjun) (ready_mono hr (Ne.symm hji)) h3.1 (fun hb => (hcl hb).set hoj hall) (by simp) ?_⟩) h2
        rw [Array.setIfInBounds_comm _ _ hji]
        exact h3.2.2
    | cons p ps =>
      obtain ⟨k, T⟩ := p
      obtain ⟨hki, hT⟩ := hps (k, T) (by simp)
      simp only at hki hT
      have hps' : ∀ p ∈ ps, p.1 ≠ i ∧ (b = true ∧ waitsFor md ops ops.size p.1 i = true ∨ ∀ u, Tame P ops (p.2 u) oi v a) := fun p hp => hps p (List.mem_cons_of_mem _ hp)
      refine ⟨fun h => (by rw [h] at hr; cases hr), fun j hj w hS => ?_⟩
      by_cases hji : j = i
      · subst hji
        rw [if_neg (Ne.symm hki)]
        exact hy.op hi hS fun w' h' => ⟨h', H⟩
      · obtain ⟨hjun, oj, hoj, hall⟩ := mem_ready.1 hj
        have hap := free j oj hoj hji hj
        obtain ⟨h1, h2', h3'⟩ := Oper.apart_spec hap
        have tame : ∀ S', Tame P ops S' oi v a → ∀ u, Tame P ops S' oi v (a.put oj.dst u) := fun S' hy' u => hy'.same (execOp_put oi (fun cs b => hsel i oi cs b hi) a oj.dst u h3') (wanted_put oi a oj.dst u h3')
        have hH := H.2 j (ready_mono hj hji) w hS
        by_cases hjk : j = k
        · rw [if_pos hjk] at hH
          rw [if_pos hjk]
          have hT : ∀ u, Tame P ops (T u) oi v a := by
            rcases hT with ⟨hbt, hw⟩ | hT
            · exfalso
              subst hjk
              have h1 := waits_listed (hcl hbt) _ _ _ oj hoj hw hall
              have h0 := (mem_ready.1 hr).1
              rcases Nat.lt_or_ge i listed.size with h' | h'
              · simp [h'] at h0 h1; rw [h0] at h1; cases h1
              · simp [Array.getElem?_eq_none h'] at h1
            · exact hT
          -- the operation that turns the world: what is taken first is as tame behind it, in every phase to come
          have h2 := op_apart_all hoj hap (fun cs b => hsel i oi cs b hi) (fun cs b => hsel j oj cs b hoj) hQ hH
          refine wpOp_mono (fun a' w' h3 => ?_) h2
          obtain ⟨hsame, u, h4, h5⟩ := h3
          refine ⟨u, h4, ih (T u) ps (listed.setIfInBounds j true) a' (keep j oj hoj hji hjun) (ready_mono hr (Ne.symm hji)) (hsame (T u) (hT u)) (fun hb => (hcl hb).set hoj hall) (fun p hp => ⟨(hps' p hp).1, (hps' p hp).2.imp id fun h u => hsame (p.2 u) (h u)⟩) ?_⟩
          rw [Array.setIfInBounds_comm _ _ hji]
          exact h5
        · rw [if_neg hjk] at hH
          rw [if_neg hjk]
          have h2 := op_apart_all hoj hap (fun cs b => hsel i oi cs b hi) (fun cs b => hsel j oj cs b hoj) hQ hH
          refine wpOp_mono (fun a' w' h3 => ?_) h2
          obtain ⟨hsame, h4, h5⟩ := h3
          refine ⟨h4, ih S ((k, T) :: ps) (listed.setIfInBounds j true) a' (keep j oj hoj hji hjun) (ready_mono hr (Ne.symm hji)) (hsame S hy) (fun hb => (hcl hb).set hoj hall) (fun p hp => ⟨(hps p hp).1, (hps p hp).2.imp id fun h u => hsame (p.2 u) (h u)⟩) ?_⟩
          rw [Array.setIfInBounds_comm _ _ hji]
          exact h5

theorem GivesV.mono {S T : World → Prop} {v : Value} {r : Result Next} (h : GivesV P S v r) (hs : ∀ w, S w → T w) : GivesV P T v r := by
  unfold GivesV at *
  cases r with
  | halt x w => exact h
  | ok n w =>
    cases n with
    | value u => exact ⟨h.1, hs _ h.2⟩
    | skip => exact ⟨h.1, hs _ h.2⟩
    | enter f args => exact Calls.mono h fun e w' he => ⟨he.1, hs _ he.2⟩
    | _ => exact h
/-- In every world that meets U the operation gives v, and turns nothing; or it is not wanted. -/
def Still (P : Program) (ops : Array Oper) (U : World → Prop) (o : Oper) (v : Value) (a : Act) : Prop :=
  (Region.wanted o (yielded ops a.tmps) = true ∧ ∀ w, U w → GivesV P (fun w' => w' = w) v ((execOp a.eval o).run P w)) ∨
  (Region.wanted o (yielded ops a.tmps) = false ∧ v = undef)
theorem Still.tame {U S : World → Prop} {o : Oper} {v : Value} {a : Act} (h : Still P ops U o v a) (hs : ∀ w, S w → U w) : Tame P ops S o v a := by
  rcases h with ⟨h1, h2⟩ | h
  · exact .inl ⟨h1, fun w hw => (h2 w (hs w hw)).mono fun w' h => h ▸ hw⟩
  · exact .inr h
theorem Still.yes {U : World → Prop} {o : Oper} {v : Value} {a : Act} (hw : Region.wanted o (yielded ops a.tmps) = true) (h : ∀ w, U w → GivesV P (fun w' => w' = w) v ((execOp a.eval o).run P w)) : Still P ops U o v a := .inl ⟨hw, h⟩
theorem Still.no {U : World → Prop} {o : Oper} {a : Act} (hw : Region.wanted o (yielded ops a.tmps) = false) : Still P ops U o undef a := .inr ⟨hw, rfl⟩

/-- What holds in every phase. -/
def Cov (U S : World → Prop) (ps : List (Nat × (Value → World → Prop))) : Prop := (∀ w, S w → U w) ∧ ∀ p ∈ ps, ∀ u w, p.2 u w → U w
theorem Cov.next {U S : World → Prop} {k : Nat} {T : Value → World → Prop} {ps : List (Nat × (Value → World → Prop))} (h : Cov U S ((k, T) :: ps)) (u : Value) : Cov U (T u) ps :=
  ⟨h.2 (k, T) (by simp) u, fun p hp => h.2 p (List.mem_cons_of_mem _ hp)⟩

theorem Cov.triv (S : World → Prop) (ps : List (Nat × (Value → World → Prop))) : Cov (fun _ => True) S ps := ⟨fun _ _ => trivial, fun _ _ _ _ _ => trivial⟩

/-- The next operation of the text that turns nothing. -/
theorem ph_take {U S : World → Prop} {ps : List (Nat × (Value → World → Prop))} (hU : Cov U S ps) {i : Nat} {oi : Oper} {v : Value} {f : Nat} {listed : Array Bool} {a : Act} (hi : ops[i]? = some oi)
    (hs : Region.noSelect ops = true) (hf : Region.free md ops listed i = true) (hr : (Region.ready md ops listed).contains i = true) (hn : (ps.map Prod.fst).contains i = false)
    (hQ : ∀ c a w, Q (.panic c) (a.put oi.dst v) w → Q (.panic c) a w) (hy : Still P ops U oi v a)
    (h : wpPh P md ops Q S ps f (listed.setIfInBounds i true) (a.put oi.dst v)) : wpPh P md ops Q S ps (f + 1) listed a :=
  ph_first false hi (Region.noSelect_spec hs) hQ f S ps listed a (Region.free_spec hi hf) (by simpa using hr) (hy.tame hU.1) (fun h => by cases h)
    (fun p hp => And.intro (fun he => (by
      have h1 : (ps.map Prod.fst).contains i = true := List.contains_iff_mem.2 (he ▸ List.mem_map_of_mem hp)
      rw [h1] at hn
      exact absurd hn (by simp))) (.inr fun u => hy.tame (hU.2 p hp u))) h

/-- The same where the phases from operation z on need not be covered: z waits for this one. -/
theorem ph_take2 {U S : World → Prop} {ps : List (Nat × (Value → World → Prop))} (z : Nat) (hU : (∀ w, S w → U w) ∧ ∀ p ∈ ps, p.1 = z ∨ ∀ u w, p.2 u w → U w) {i : Nat} {oi : Oper} {v : Value} {f : Nat} {listed : Array Bool} {a : Act} (hi : ops[i]? = some oi)
    (hs : Region.noSelect ops = true) (hf : Region.free md ops listed i = true) (hr : (Region.ready md ops listed).contains i = true) (hn : (ps.map Prod.fst).contains i = false)
    (hz : waitsFor md ops ops.size z i = true) (hcl : closedB md ops listed = true) (hQ : ∀ c a w, Q (.panic c) (a.put oi.dst v) w → Q (.panic c) a w) (hy : Still P ops U oi v a)
    (h : wpPh P md ops Q S ps f (listed.setIfInBounds i true) (a.put oi.dst v)) : wpPh P md ops Q S ps (f + 1) listed a :=
  ph_first true hi (Region.noSelect_spec hs) hQ f S ps listed a (Region.free_spec hi hf) (by simpa using hr) (hy.tame hU.1) (fun _ => closed_of hcl)
    (fun p hp => And.intro (fun he => (by
      have h1 : (ps.map Prod.fst).contains i = true := List.contains_iff_mem.2 (he ▸ List.mem_map_of_mem hp)
      rw [h1] at hn
      exact absurd hn (by simp))) ((hU.2 p hp).elim (fun he => .inl ⟨rfl, he ▸ hz⟩) fun h => .inr fun u => hy.tame (h u))) h

/-- The next operation that turns the world: no other one is left that might be carried out ahead of it. -/
theorem ph_turn {S : World → Prop} {T : Value → World → Prop} {ps : List (Nat × (Value → World → Prop))} {k f : Nat} {listed : Array Bool} {a : Act} (hr : Region.ready md ops listed = [k])
    (h : ∀ w, S w → wpOp P ops Q k (fun a' w' => ∃ v, T v w' ∧ wpPh P md ops Q (T v) ps f (listed.setIfInBounds k true) a') a w) : wpPh P md ops Q S ((k, T) :: ps) (f + 1) listed a := by
  refine ⟨fun h => (by rw [hr] at h; cases h), fun i hi w hS => ?_⟩
  rw [hr, List.mem_singleton] at hi
  subst hi
  rw [if_pos rfl]
  exact h w hS
theorem ph_done {S : World → Prop} {ps : List (Nat × (Value → World → Prop))} {listed : Array Bool} {a : Act} (hr : Region.ready md ops listed = []) (h : ∀ w, S w → Q .normal a w) : ∀ f, wpPh P md ops Q S ps f listed a
  | 0 => by cases ps <;> exact ⟨hr, h⟩
  | f + 1 => by cases ps <;> exact ⟨fun _ => h, by rw [hr]; simp⟩

/-- The beginning. -/
theorem region_ph (S : World → Prop) (ps : List (Nat × (Value → World → Prop))) {id : Nat} {a : Act} {w : World} (hm : P.follows .mixedOrders = true) (hS : S w.drew)
    (h : wpPh P .any ops Q S ps ops.size (Array.replicate ops.size false) a) : (Code.region id ops true).wp P Q a w :=
  wp_region_any hm (wpAny_of_ph _ _ _ _ _ _ hS h)

theorem wpOp_value {k : Nat} {o : Oper} {v : Value} {a : Act} {K : Act → World → Prop} {w w' : World} (hk : ops[k]? = some o) (hw : Region.wanted o (yielded ops a.tmps) = true)
    (hrun : (execOp a.eval o).run P w = .ok (.value v) w') (hK : K (a.put o.dst v) w') : wpOp P ops Q k K a w := by
  unfold wpOp
  simp only [hk, hw, if_true]
  left
  unfold Oper.wp
  rw [hrun]
  exact hK
theorem wpOp_call {k : Nat} {o : Oper} {a : Act} {K : Act → World → Prop} {w w' : World} {f : FuncId} {args : Array Value} (hk : ops[k]? = some o) (hw : Region.wanted o (yielded ops a.tmps) = true)
    (hrun : (execOp a.eval o).run P w = .ok (.enter f args) w') (hK : Calls P f args w' fun e w'' => ∃ v, e = .returned v ∧ K (a.put o.dst v) w'') : wpOp P ops Q k K a w := by
  unfold wpOp
  simp only [hk, hw, if_true]
  left
  unfold Oper.wp
  rw [hrun]
  simp only [Oper.upon]
  exact Calls.mono hK fun e w'' ⟨v, he, h⟩ => by subst he; exact h
/-- The next operation that turns the world is a call. -/
theorem ph_call {S : World → Prop} {T : Value → World → Prop} {ps : List (Nat × (Value → World → Prop))} {k f : Nat} {o : Oper} {listed : Array Bool} {a : Act} {fid : FuncId} {args : Array Value} (hr : Region.ready md ops listed = [k])
    (hk : ops[k]? = some o) (hw : Region.wanted o (yielded ops a.tmps) = true) (hrun : ∀ w, (execOp a.eval o).run P w = .ok (.enter fid args) w)
    (hc : ∀ w, S w → Calls P fid args w fun e w' => ∃ v, e = .returned v ∧ T v w')
    (h : ∀ v, (∃ w, T v w) → wpPh P md ops Q (T v) ps f (listed.setIfInBounds k true) (a.put o.dst v)) : wpPh P md ops Q S ((k, T) :: ps) (f + 1) listed a :=
  ph_turn hr fun w hS => wpOp_call hk hw (hrun w) ((hc w hS).mono fun e w' ⟨v, he, hT⟩ => ⟨v, he, v, hT, h v ⟨w', hT⟩⟩)
/-- The next operation that turns the world gives one value in every world. -/
theorem ph_value {S : World → Prop} {T : Value → World → Prop} {ps : List (Nat × (Value → World → Prop))} {k f : Nat} {o : Oper} {listed : Array Bool} {a : Act} (hr : Region.ready md ops listed = [k])
    (hk : ops[k]? = some o) (hw : Region.wanted o (yielded ops a.tmps) = true) (hc : ∀ w, S w → ∃ v w', (execOp a.eval o).run P w = .ok (.value v) w' ∧ T v w')
    (h : ∀ v, (∃ w, T v w) → wpPh P md ops Q (T v) ps f (listed.setIfInBounds k true) (a.put o.dst v)) : wpPh P md ops Q S ((k, T) :: ps) (f + 1) listed a :=
  ph_turn hr fun w hS => by
    obtain ⟨v, w', hrun, hT⟩ := hc w hS
    exact wpOp_value hk hw hrun ⟨v, hT, h v ⟨w', hT⟩⟩
theorem ph_skip {S : World → Prop} {T : Value → World → Prop} {ps : List (Nat × (Value → World → Prop))} {k f : Nat} {o : Oper} {listed : Array Bool} {a : Act} (hr : Region.ready md ops listed = [k])
    (hk : ops[k]? = some o) (hw : Region.wanted o (yielded ops a.tmps) = true) (hc : ∀ w, S w → ∃ w', (execOp a.eval o).run P w = .ok .skip w' ∧ T undef w')
    (h : wpPh P md ops Q (T undef) ps f (listed.setIfInBounds k true) (a.put o.dst undef)) : wpPh P md ops Q S ((k, T) :: ps) (f + 1) listed a :=
  ph_turn hr fun w hS => by
    obtain ⟨w', hrun, hT⟩ := hc w hS
    unfold wpOp
    simp only [hk, hw, if_true]
    left
    unfold Oper.wp
    rw [hrun]
    exact ⟨undef, hT, h⟩
end
end Go.Proofs.Ytogcfndhcphpaaa
/-
  A statement whose order Go leaves open: what turns nothing is taken first, in the text's order; each operation that turns the world says what holds behind it. C is what the loads need; it holds until operation z (a store) is carried out. No program is named.
-/
set_option linter.unusedVariables false
set_option linter.unusedSimpArgs false
namespace Go.Proofs.Ytogcfndhcphpaaa
open Go.RowKit

section
variable {P : Program} {ops : Array Oper} {Q : Exit → Act → World → Prop} {md : Region.Mode} {z : Nat} {C : World → Prop}

/-- Whatever order is picked from here on, in whatever world that meets S. -/
def wpG (P : Program) (md : Region.Mode) (ops : Array Oper) (Q : Exit → Act → World → Prop) (z : Nat) (C : World → Prop) : Nat → (World → Prop) → Array Bool → Act → Prop
  | 0, S, listed, a => Region.ready md ops listed = [] ∧ ∀ w, S w → Q .normal a w
  | f + 1, S, listed, a => (Region.ready md ops listed = [] → ∀ w, S w → Q .normal a w) ∧
      ∀ i ∈ Region.ready md ops listed, ∃ T : Value → World → Prop, (∀ v w, T v w → (listed.setIfInBounds i true).getD z false = false → C w) ∧
        ∀ w, S w → wpOp P ops Q i (fun a' w' => ∃ v, T v w' ∧ wpG P md ops Q z C f (T v) (listed.setIfInBounds i true) a') a w

theorem wpAny_of_g : ∀ (f : Nat) (S : World → Prop) (listed : Array Bool) (a : Act) (w : World), S w → wpG P md ops Q z C f S listed a → wpAny P md ops Q f listed a w
  | 0, _, _, _, _, hS, h => ⟨h.1, h.2 _ hS⟩
  | f + 1, _, _, _, _, hS, h => ⟨fun h0 => h.1 h0 _ hS, fun i hi => by
      obtain ⟨T, _, h2⟩ := h.2 i hi
      exact wpOp_mono (fun a' w' ⟨v, h', h''⟩ => wpAny_of_g f (T v) _ a' w' h' h'') (h2 _ hS)⟩
theorem g_zero {f : Nat} {S : World → Prop} {listed : Array Bool} {a : Act} (h : wpG P md ops Q z C 0 S listed a) : Region.ready md ops listed = [] := h.1

/-- Behind an operation that is apart the first one is what it was. -/
theorem op_apart_eq {j : Nat} {oi oj : Oper} {v : Value} {a : Act} {w : World} (hj : ops[j]? = some oj) (hap : oi.apart ops oj = true)
    (hsi : ∀ cs b, oi.op ≠ .select cs b) (hsj : ∀ cs b, oj.op ≠ .select cs b)
    (hQ : ∀ c a w, Q (.panic c) (a.put oi.dst v) w → Q (.panic c) a w) {K : Act → World → Prop}
    (h : wpOp P ops Q j K (a.put oi.dst v) w) :
    wpOp P ops Q j (fun a' w' => (execOp a'.eval oi = execOp a.eval oi ∧ Region.wanted oi (yielded ops a'.tmps) = Region.wanted oi (yielded ops a.tmps)) ∧ K (a'.put oi.dst v) w') a w := by
  obtain ⟨h1, h2, h3⟩ := Oper.apart_spec hap
  have keep : ∀ u, execOp (a.put oj.dst u).eval oi = execOp a.eval oi ∧ Region.wanted oi (yielded ops (a.put oj.dst u).tmps) = Region.wanted oi (yielded ops a.tmps) := fun u => ⟨execOp_put oi hsi a oj.dst u h3, wanted_put oi a oj.dst u h3⟩
  have swap : ∀ u w', K ((a.put oi.dst v).put oj.dst u) w' → (execOp (a.put oj.dst u).eval oi = execOp a.eval oi ∧ Region.wanted oi (yielded ops (a.put oj.dst u).tmps) = Region.wanted oi (yielded ops a.tmps)) ∧ K ((a.put oj.dst u).put oi.dst v) w' :=
    fun u w' hk => ⟨keep u, by rw [← Act.put_comm a v u h2]; exact hk⟩
  unfold wpOp at *
  simp only [hj] at *
  rw [wanted_put oj a oi.dst v h1] at h
  split
  · rename_i hw
    simp only [hw, if_true] at h
    rcases h with h | ⟨hasks, hlets⟩
    · left
      unfold Oper.wp at *
      rw [execOp_put oj hsj a oi.dst v h1] at h
      generalize (execOp a.eval oj).run P w = r at *
      cases r with
      | ok n w' =>
        cases n <;> simp only [Oper.upon] at h ⊢
        case value u => exact swap u w' h
        case skip => exact swap _ w' h
        case defer d =>
          refine ⟨⟨execOp_put oi hsi { a with defers := d :: a.defers } oj.dst _ h3, wanted_put oi { a with defers := d :: a.defers } oj.dst _ h3⟩, ?_⟩
          rw [← Act.put_comm _ v undef h2, ← Act.put_defers]
          exact h
        case enter f args =>
          refine Calls.mono h fun e w'' he => ?_
          cases e with
          | returned u => exact swap u w'' he
          | panicked c => exact hQ _ _ _ he
          | outgrown => exact he
        case row row args => exact Rows.mono h fun u w'' he => swap u w'' he
      | halt x w' =>
        cases x <;> simp only [Oper.upon] at h ⊢
        case panic u => exact hQ _ _ _ h
    · right
      unfold Oper.asks at *
      rw [execOp_put oj hsj a oi.dst v h1] at hasks
      exact ⟨hasks, hlets⟩
  · rename_i hw
    simp only [hw] at h
    exact swap _ w h

theorem Still.same {U : World → Prop} {o : Oper} {v : Value} {a b : Act} (h : Still P ops U o v a) (he : execOp b.eval o = execOp a.eval o)
    (hw : Region.wanted o (yielded ops b.tmps) = Region.wanted o (yielded ops a.tmps)) : Still P ops U o v b := by
  unfold Still at *
  rw [he, hw]
  exact h

theorem g_first (needs : Bool) {i : Nat} {oi : Oper} {v : Value} (hi : ops[i]? = some oi) (hsel : ∀ (j : Nat) (o : Oper) cs b, ops[j]? = some o → o.op ≠ .select cs b)
    (hQ : ∀ c a w, Q (.panic c) (a.put oi.dst v) w → Q (.panic c) a w) (hiz : i ≠ z) (hw : needs = true → ops.size ≤ z ∨ waitsFor md ops ops.size z i = true) :
    ∀ (f : Nat) (S : World → Prop) (listed : Array Bool) (a : Act), (needs = true → listed.size = ops.size) →
      (∀ j oj, ops[j]? = some oj → j ≠ i → listed.getD j true = false → (∀ e ∈ oj.after, Region.binds md e = true → e.on ≠ i) → oi.apart ops oj = true) →
      i ∈ Region.ready md ops listed → (needs = true → Closed md ops listed) → (∀ w, S w → listed.getD z false = false → C w) →
      Still P ops (if needs = true then C else fun _ => True) oi v a →
      wpG P md ops Q z C f S (listed.setIfInBounds i true) (a.put oi.dst v) → wpG P md ops Q z C (f + 1) S listed a := by
  -- in every world of such a phase the operation can be carried out
  have can : ∀ (S : World → Prop) (listed : Array Bool) (a : Act), (needs = true → listed.size = ops.size) → i ∈ Region.ready md ops listed → (needs = true → Closed md ops listed) → (∀ w, S w → listed.getD z false = false → C w) →
      Still P ops (if needs = true then C else fun _ => True) oi v a → Tame P ops S oi v a := fun S listed a hsz hr hcl hSC hy => hy.tame fun w hS => by
    by_cases hn : needs = true
    · rw [if_pos hn]
      refine hSC w hS ?_
      have h0 := (mem_ready.1 hr).1
      cases hz : listed.getD z false with
      | false => rfl
      | true =>
        exfalso
        rcases hw hn with hge | hwz
        · have : listed.getD z false = false := by simp [Array.getElem?_eq_none (show listed.size ≤ z by rw [hsz hn]; exact hge)]
          rw [this] at hz; cases hz
        · cases ho : ops[z]? with
          | none =>
            have : ∀ f, waitsFor md ops (f + 1) z i = false := fun f => by simp [waitsFor, ho]
            cases hs : ops.size with
            | zero => rw [hs] at hwz; simp [waitsFor] at hwz
            | succ f => rw [hs, this] at hwz; cases hwz
          | some oz =>
            have h1 := waits_listed (hcl hn) _ _ _ oz ho hwz ((hcl hn) z oz ho hz)
            rcases Nat.lt_or_ge i listed.size with h' | h'
            · simp [h'] at h0 h1; rw [h0] at h1; cases h1
            · simp [Array.getElem?_eq_none h'] at h1
    · rw [if_neg hn]; trivial
  have step : ∀ (S : World → Prop) (listed : Array Bool) (a : Act) (f : Nat), (∀ w, S w → listed.getD z false = false → C w) → Tame P ops S oi v a → wpG P md ops Q z C f S (listed.setIfInBounds i true) (a.put oi.dst v) →
      ∃ T : Value → World → Prop, (∀ v w, T v w → (listed.setIfInBounds i true).getD z false = false → C w) ∧
        ∀ w, S w → wpOp P ops Q i (fun a' w' => ∃ v, T v w' ∧ wpG P md ops Q z C f (T v) (listed.setIfInBounds i true) a') a w := fun S listed a f hSC hy H =>
    ⟨fun _ => S, fun _ w hS hz => hSC w hS (by rwa [getD_set_ne false hiz] at hz), fun w hS => hy.op hi hS fun w' h' => ⟨undef, h', H⟩⟩
  intro f
  induction f with
  | zero =>
    intro S listed a hsz _ hr hcl hSC hy H
    refine ⟨fun h => (by rw [h] at hr; cases hr), fun j hj => ?_⟩
    by_cases hji : j = i
    · subst hji
      exact step S listed a 0 hSC (can S listed a hsz hr hcl hSC hy) H
    · have h0 := ready_mono hj hji
      rw [H.1] at h0
      cases h0
  | succ f ih =>
    intro S listed a hsz hfree hr hcl hSC hy H
    refine ⟨fun h => (by rw [h] at hr; cases hr), fun j hj => ?_⟩
    by_cases hji : j = i
    · subst hji
      exact step S listed a (f + 1) hSC (can S listed a hsz hr hcl hSC hy) H
    · obtain ⟨hjun, oj, hoj, hall⟩ := mem_ready.1 hj
      have hap : oi.apart ops oj = true := hfree j oj hoj hji hjun fun e he hb heq => by
        have h1 := hall e he hb
        have h0 := (mem_ready.1 hr).1
        rw [heq] at h1
        rcases Nat.lt_or_ge i listed.size with h' | h'
        · simp [h'] at h0 h1; rw [h0] at h1; cases h1
        · simp [Array.getElem?_eq_none h'] at h1
      have keep : ∀ k ok, ops[k]? = some ok → k ≠ i → (listed.setIfInBounds j true).getD k true = false → (∀ e ∈ ok.after, Region.binds md e = true → e.on ≠ i) → oi.apart ops ok = true := fun k ok hk hki hun hn => by
        refine hfree k ok hk hki ?_ hn
        by_cases hjk : j = k
        · subst hjk; exact hjun
        · rw [getD_set_ne true hjk] at hun; exact hun
      obtain ⟨T, hTC, hH⟩ := H.2 j (ready_mono hj hji)
      have hTC' : ∀ u w, T u w → (listed.setIfInBounds j true).getD z false = false → C w := fun u w hT hz => hTC u w hT (by
        rw [Array.setIfInBounds_comm _ _ (Ne.symm hji), getD_set_ne false hiz]; exact hz)
      refine ⟨T, hTC', fun w hS => ?_⟩
      have h2 := op_apart_eq hoj hap (fun cs b => hsel i oi cs b hi) (fun cs b => hsel j oj cs b hoj) hQ (hH w hS)
      obtain ⟨h1, h2', h3'⟩ := Oper.apart_spec hap
      refine wpOp_mono (fun a' w' h3 => ?_) h2
      obtain ⟨hsame, u, h4, h5⟩ := h3
      have hy' := hy.same hsame.1 hsame.2
      refine ⟨u, h4, ?_⟩
      refine ih (T u) (listed.setIfInBounds j true) a' (fun hn => by simp [hsz hn]) keep (ready_mono hr (Ne.symm hji)) (fun hn => (hcl hn).set hoj hall) (hTC' u) hy' ?_
      rw [Array.setIfInBounds_comm _ _ hji]
      exact h5

/-- The next operation of the text, one that reads what C says. -/
theorem g_take {S : World → Prop} {i : Nat} {oi : Oper} {v : Value} {f : Nat} {listed : Array Bool} {a : Act} (hSC : ∀ w, S w → listed.getD z false = false → C w) (hi : ops[i]? = some oi)
    (hs : Region.noSelect ops = true) (hf : Region.free md ops listed i = true) (hr : (Region.ready md ops listed).contains i = true) (hz : (i != z && listed.size == ops.size && (decide (ops.size ≤ z) || waitsFor md ops ops.size z i)) = true) (hcl : closedB md ops listed = true)
    (hQ : ∀ c a w, Q (.panic c) (a.put oi.dst v) w → Q (.panic c) a w) (hy : Still P ops C oi v a)
    (h : wpG P md ops Q z C f S (listed.setIfInBounds i true) (a.put oi.dst v)) : wpG P md ops Q z C (f + 1) S listed a := by
  simp only [Bool.and_eq_true, bne_iff_ne, beq_iff_eq, Bool.or_eq_true, decide_eq_true_eq] at hz
  exact g_first true hi (Region.noSelect_spec hs) hQ hz.1.1 (fun _ => hz.2) f S listed a (fun _ => hz.1.2) (Region.free_spec hi hf) (by simpa using hr) (fun _ => closed_of hcl) hSC (by rw [if_pos rfl]; exact hy) h
/-- The next operation of the text, one that hangs on the frame alone. -/
theorem g_free {S : World → Prop} {i : Nat} {oi : Oper} {v : Value} {f : Nat} {listed : Array Bool} {a : Act} (hSC : ∀ w, S w → listed.getD z false = false → C w) (hi : ops[i]? = some oi)
    (hs : Region.noSelect ops = true) (hf : Region.free md ops listed i = true) (hr : (Region.ready md ops listed).contains i = true) (hz : (i != z) = true)
    (hQ : ∀ c a w, Q (.panic c) (a.put oi.dst v) w → Q (.panic c) a w) (hy : Still P ops (fun _ => True) oi v a)
    (h : wpG P md ops Q z C f S (listed.setIfInBounds i true) (a.put oi.dst v)) : wpG P md ops Q z C (f + 1) S listed a := by
  simp only [bne_iff_ne] at hz
  exact g_first false hi (Region.noSelect_spec hs) hQ hz (fun h => by cases h) f S listed a (fun h => by cases h) (Region.free_spec hi hf) (by simpa using hr) (fun h => by cases h) hSC (by rw [if_neg (by simp)]; exact hy) h
theorem g_done {S : World → Prop} {listed : Array Bool} {a : Act} (hr : Region.ready md ops listed = []) (h : ∀ w, S w → Q .normal a w) : ∀ f, wpG P md ops Q z C f S listed a
  | 0 => ⟨hr, h⟩
  | _ + 1 => ⟨fun _ => h, by rw [hr]; simp⟩
/-- The next operation that turns the world, no other being ready. -/
theorem g_turn (T : Value → World → Prop) {S : World → Prop} {k f : Nat} {listed : Array Bool} {a : Act} (hr : Region.ready md ops listed = [k]) (hT : ∀ v w, T v w → (listed.setIfInBounds k true).getD z false = false → C w)
    (h : ∀ w, S w → wpOp P ops Q k (fun a' w' => ∃ v, T v w' ∧ wpG P md ops Q z C f (T v) (listed.setIfInBounds k true) a') a w) : wpG P md ops Q z C (f + 1) S listed a :=
  ⟨fun h => (by rw [hr] at h; cases h), fun i hi => by rw [hr, List.mem_singleton] at hi; subst hi; exact ⟨T, hT, h⟩⟩
/-- Two operations that turn the world, in either order. -/
theorem g_two (T U : Value → World → Prop) {S : World → Prop} {k l f : Nat} {listed : Array Bool} {a : Act} (hr : Region.ready md ops listed = [k, l]) (hT : ∀ v w, T v w → (listed.setIfInBounds k true).getD z false = false → C w)
    (hU : ∀ v w, U v w → (listed.setIfInBounds l true).getD z false = false → C w)
    (h1 : ∀ w, S w → wpOp P ops Q k (fun a' w' => ∃ v, T v w' ∧ wpG P md ops Q z C f (T v) (listed.setIfInBounds k true) a') a w)
    (h2 : ∀ w, S w → wpOp P ops Q l (fun a' w' => ∃ v, U v w' ∧ wpG P md ops Q z C f (U v) (listed.setIfInBounds l true) a') a w) : wpG P md ops Q z C (f + 1) S listed a :=
  ⟨fun h => (by rw [hr] at h; cases h), fun i hi => by
    rw [hr] at hi
    simp only [List.mem_cons, List.not_mem_nil, or_false] at hi
    rcases hi with rfl | rfl
    · exact ⟨T, hT, h1⟩
    · exact ⟨U, hU, h2⟩⟩
/-- The beginning. -/
theorem region_g (z : Nat) (C S : World → Prop) {id : Nat} {a : Act} {w : World} (hm : P.follows .mixedOrders = true) (hS : S w.drew)
    (h : wpG P .any ops Q z C ops.size S (Array.replicate ops.size false) a) : (Code.region id ops true).wp P Q a w :=
  wp_region_any hm (wpAny_of_g _ _ _ _ _ hS h)
/-- One step, as a call, as a value, as a store, at Oper.wp. -/
theorem at_call {T : Value → World → Prop} {S : World → Prop} {k f : Nat} {o : Oper} {listed : Array Bool} {a : Act} {fid : FuncId} {args : Array Value} {w : World}
    (hk : ops[k]? = some o) (hw : Region.wanted o (yielded ops a.tmps) = true) (hrun : (execOp a.eval o).run P w = .ok (.enter fid args) w)
    (hc : Calls P fid args w fun e w' => ∃ v, e = .returned v ∧ T v w')
    (h : ∀ v, (∃ w, T v w) → wpG P md ops Q z C f (T v) (listed.setIfInBounds k true) (a.put o.dst v)) : wpOp P ops Q k (fun a' w' => ∃ v, T v w' ∧ wpG P md ops Q z C f (T v) (listed.setIfInBounds k true) a') a w :=
  wpOp_call hk hw hrun (hc.mono fun e w' ⟨v, he, hT⟩ => ⟨v, he, v, hT, h v ⟨w', hT⟩⟩)
theorem at_value {T : Value → World → Prop} {k f : Nat} {o : Oper} {listed : Array Bool} {a : Act} {w : World}
    (hk : ops[k]? = some o) (hw : Region.wanted o (yielded ops a.tmps) = true) (hc : ∃ v w', (execOp a.eval o).run P w = .ok (.value v) w' ∧ T v w')
    (h : ∀ v, (∃ w, T v w) → wpG P md ops Q z C f (T v) (listed.setIfInBounds k true) (a.put o.dst v)) : wpOp P ops Q k (fun a' w' => ∃ v, T v w' ∧ wpG P md ops Q z C f (T v) (listed.setIfInBounds k true) a') a w := by
  obtain ⟨v, w', hrun, hT⟩ := hc
  exact wpOp_value hk hw hrun ⟨v, hT, h v ⟨w', hT⟩⟩
theorem at_skip {T : Value → World → Prop} {k f : Nat} {o : Oper} {listed : Array Bool} {a : Act} {w : World}
    (hk : ops[k]? = some o) (hw : Region.wanted o (yielded ops a.tmps) = true) (hc : ∃ w', (execOp a.eval o).run P w = .ok .skip w' ∧ T undef w')
    (h : wpG P md ops Q z C f (T undef) (listed.setIfInBounds k true) (a.put o.dst undef)) : wpOp P ops Q k (fun a' w' => ∃ v, T v w' ∧ wpG P md ops Q z C f (T v) (listed.setIfInBounds k true) a') a w := by
  obtain ⟨w', hrun, hT⟩ := hc
  unfold wpOp
  simp only [hk, hw, if_true]
  left
  unfold Oper.wp
  rw [hrun]
  exact ⟨undef, hT, h⟩
theorem at_oper {T : Value → World → Prop} {k f : Nat} {o : Oper} {listed : Array Bool} {a : Act} {w : World}
    (hk : ops[k]? = some o) (hw : Region.wanted o (yielded ops a.tmps) = true) (hc : ∀ K : Act → World → Prop, (∀ v w', T v w' → K (a.put o.dst v) w') → o.wp P a w K Q)
    (h : ∀ v, (∃ w, T v w) → wpG P md ops Q z C f (T v) (listed.setIfInBounds k true) (a.put o.dst v)) : wpOp P ops Q k (fun a' w' => ∃ v, T v w' ∧ wpG P md ops Q z C f (T v) (listed.setIfInBounds k true) a') a w := by
  unfold wpOp
  simp only [hk, hw, if_true]
  left
  exact hc _ fun v w' hT => ⟨v, hT, h v ⟨w', hT⟩⟩
end
end Go.Proofs.Ytogcfndhcphpaaa
