/-
  A statement whose order Go leaves open: what turns nothing is taken first, in the text's order; each operation that turns the world says what holds behind it. C is what the loads need; it holds until operation z (a store) is carried out. No program is named.
-/
import Derived.Test.YthkalaohaholaaaRp
set_option linter.unusedVariables false
set_option linter.unusedSimpArgs false
namespace Go.Proofs.Ythkalaohaholaaa
open Go.RowKit

section
variable {P : Program} {ops : Array Oper} {Q : Exit → Act → World → Prop} {md : Region.Mode} {z : Nat} {C : World → Prop}

/-- Whatever order is picked from here on, in whatever world that meets S. -/
def wpG (P : Program) (md : Region.Mode) (ops : Array Oper) (Q : Exit → Act → World → Prop) (z : Nat) (C : World → Prop) : Nat → (World → Prop) → Array Bool → Act → Prop
  | 0, S, listed, a => Region.ready md ops listed = [] ∧ ∀ w, S w → Q .normal a w
  | f + 1, S, listed, a => (Region.ready md ops listed = [] → ∀ w, S w → Q .normal a w) ∧
      ∀ i ∈ Region.ready md ops listed, ∃ T : Value → World → Prop, (∀ v w, T v w → (listed.setIfInBounds i true).getD z false = false → C w) ∧
        ∀ w, S w → wpOp P ops Q i (fun a' w' => ∃ v, T v w' ∧ wpG P md ops Q z C f (T v) (listed.setIfInBounds i true) a') a w

theorem wpAny_of_g : ∀ (f : Nat) (S : World → Prop) (listed : Array Bool) (a : Act) (w : World), S w → wpG P md ops Q z C f S listed a → wpAny P md ops Q f listed a w
  | 0, _, _, _, _, hS, h => ⟨h.1, h.2 _ hS⟩
  | f + 1, _, _, _, _, hS, h => ⟨fun h0 => h.1 h0 _ hS, fun i hi => by
      obtain ⟨T, _, h2⟩ := h.2 i hi
      exact wpOp_mono (fun a' w' ⟨v, h', h''⟩ => wpAny_of_g f (T v) _ a' w' h' h'') (h2 _ hS)⟩
theorem g_zero {f : Nat} {S : World → Prop} {listed : Array Bool} {a : Act} (h : wpG P md ops Q z C 0 S listed a) : Region.ready md ops listed = [] := h.1

/-- Behind an operation that is apart the first one is what it was. -/
theorem op_apart_eq {j : Nat} {oi oj : Oper} {v : Value} {a : Act} {w : World} (hj : ops[j]? = some oj) (hap : oi.apart ops oj = true)
    (hsi : ∀ cs b, oi.op ≠ .select cs b) (hsj : ∀ cs b, oj.op ≠ .select cs b)
    (hQ : ∀ c a w, Q (.panic c) (a.put oi.dst v) w → Q (.panic c) a w) {K : Act → World → Prop}
    (h : wpOp P ops Q j K (a.put oi.dst v) w) :
    wpOp P ops Q j (fun a' w' => (execOp a'.eval oi = execOp a.eval oi ∧ Region.wanted oi (yielded ops a'.tmps) = Region.wanted oi (yielded ops a.tmps)) ∧ K (a'.put oi.dst v) w') a w := by
  obtain ⟨h1, h2, h3⟩ := Oper.apart_spec hap
  have keep : ∀ u, execOp (a.put oj.dst u).eval oi = execOp a.eval oi ∧ Region.wanted oi (yielded ops (a.put oj.dst u).tmps) = Region.wanted oi (yielded ops a.tmps) := fun u => ⟨execOp_put oi hsi a oj.dst u h3, wanted_put oi a oj.dst u h3⟩
  have swap : ∀ u w', K ((a.put oi.dst v).put oj.dst u) w' → (execOp (a.put oj.dst u).eval oi = execOp a.eval oi ∧ Region.wanted oi (yielded ops (a.put oj.dst u).tmps) = Region.wanted oi (yielded ops a.tmps)) ∧ K ((a.put oj.dst u).put oi.dst v) w' :=
    fun u w' hk => ⟨keep u, by rw [← Act.put_comm a v u h2]; exact hk⟩
  unfold wpOp at *
  simp only [hj] at *
  rw [wanted_put oj a oi.dst v h1] at h
  split
  · rename_i hw
    simp only [hw, if_true] at h
    rcases h with h | ⟨hasks, hlets⟩
    · left
      unfold Oper.wp at *
      rw [execOp_put oj hsj a oi.dst v h1] at h
      generalize (execOp a.eval oj).run P w = r at *
      cases r with
      | ok n w' =>
        cases n <;> simp only [Oper.upon] at h ⊢
        case value u => exact swap u w' h
        case skip => exact swap _ w' h
        case defer d =>
          refine ⟨⟨execOp_put oi hsi { a with defers := d :: a.defers } oj.dst _ h3, wanted_put oi { a with defers := d :: a.defers } oj.dst _ h3⟩, ?_⟩
          rw [← Act.put_comm _ v undef h2, ← Act.put_defers]
          exact h
        case enter f args =>
          refine Calls.mono h fun e w'' he => ?_
          cases e with
          | returned u => exact swap u w'' he
          | panicked c => exact hQ _ _ _ he
          | outgrown => exact he
        case row row args => exact Rows.mono h fun u w'' he => swap u w'' he
      | halt x w' =>
        cases x <;> simp only [Oper.upon] at h ⊢
        case panic u => exact hQ _ _ _ h
    · right
      unfold Oper.asks at *
      rw [execOp_put oj hsj a oi.dst v h1] at hasks
      exact ⟨hasks, hlets⟩
  · rename_i hw
    simp only [hw] at h
    exact swap _ w h

theorem Still.same {U : World → Prop} {o : Oper} {v : Value} {a b : Act} (h : Still P ops U o v a) (he : execOp b.eval o = execOp a.eval o)
    (hw : Region.wanted o (yielded ops b.tmps) = Region.wanted o (yielded ops a.tmps)) : Still P ops U o v b := by
  unfold Still at *
  rw [he, hw]
  exact h

theorem g_first (needs : Bool) {i : Nat} {oi : Oper} {v : Value} (hi : ops[i]? = some oi) (hsel : ∀ (j : Nat) (o : Oper) cs b, ops[j]? = some o → o.op ≠ .select cs b)
    (hQ : ∀ c a w, Q (.panic c) (a.put oi.dst v) w → Q (.panic c) a w) (hiz : i ≠ z) (hw : needs = true → ops.size ≤ z ∨ waitsFor md ops ops.size z i = true) :
    ∀ (f : Nat) (S : World → Prop) (listed : Array Bool) (a : Act), (needs = true → listed.size = ops.size) →
      (∀ j oj, ops[j]? = some oj → j ≠ i → listed.getD j true = false → (∀ e ∈ oj.after, Region.binds md e = true → e.on ≠ i) → oi.apart ops oj = true) →
      i ∈ Region.ready md ops listed → (needs = true → Closed md ops listed) → (∀ w, S w → listed.getD z false = false → C w) →
      Still P ops (if needs = true then C else fun _ => True) oi v a →
      wpG P md ops Q z C f S (listed.setIfInBounds i true) (a.put oi.dst v) → wpG P md ops Q z C (f + 1) S listed a := by
  -- in every world of such a phase the operation can be carried out
  have can : ∀ (S : World → Prop) (listed : Array Bool) (a : Act), (needs = true → listed.size = ops.size) → i ∈ Region.ready md ops listed → (needs = true → Closed md ops listed) → (∀ w, S w → listed.getD z false = false → C w) →
      Still P ops (if needs = true then C else fun _ => True) oi v a → Tame P ops S oi v a := fun S listed a hsz hr hcl hSC hy => hy.tame fun w hS => by
    by_cases hn : needs = true
    · rw [if_pos hn]
      refine hSC w hS ?_
      have h0 := (mem_ready.1 hr).1
      cases hz : listed.getD z false with
      | false => rfl
      | true =>
        exfalso
        rcases hw hn with hge | hwz
        · have : listed.getD z false = false := by simp [Array.getElem?_eq_none (show listed.size ≤ z by rw [hsz hn]; exact hge)]
          rw [this] at hz; cases hz
        · cases ho : ops[z]? with
          | none =>
            have : ∀ f, waitsFor md ops (f + 1) z i = false := fun f => by simp [waitsFor, ho]
            cases hs : ops.size with
            | zero => rw [hs] at hwz; simp [waitsFor] at hwz
            | succ f => rw [hs, this] at hwz; cases hwz
          | some oz =>
            have h1 := waits_listed (hcl hn) _ _ _ oz ho hwz ((hcl hn) z oz ho hz)
            rcases Nat.lt_or_ge i listed.size with h' | h'
            · simp [h'] at h0 h1; rw [h0] at h1; cases h1
            · simp [Array.getElem?_eq_none h'] at h1
    · rw [if_neg hn]; trivial
  have step : ∀ (S : World → Prop) (listed : Array Bool) (a : Act) (f : Nat), (∀ w, S w → listed.getD z false = false → C w) → Tame P ops S oi v a → wpG P md ops Q z C f S (listed.setIfInBounds i true) (a.put oi.dst v) →
      ∃ T : Value → World → Prop, (∀ v w, T v w → (listed.setIfInBounds i true).getD z false = false → C w) ∧
        ∀ w, S w → wpOp P ops Q i (fun a' w' => ∃ v, T v w' ∧ wpG P md ops Q z C f (T v) (listed.setIfInBounds i true) a') a w := fun S listed a f hSC hy H =>
    ⟨fun _ => S, fun _ w hS hz => hSC w hS (by rwa [getD_set_ne false hiz] at hz), fun w hS => hy.op hi hS fun w' h' => ⟨undef, h', H⟩⟩
  intro f
  induction f with
  | zero =>
    intro S listed a hsz _ hr hcl hSC hy H
    refine ⟨fun h => (by rw [h] at hr; cases hr), fun j hj => ?_⟩
    by_cases hji : j = i
    · subst hji
      exact step S listed a 0 hSC (can S listed a hsz hr hcl hSC hy) H
    · have h0 := ready_mono hj hji
      rw [H.1] at h0
      cases h0
  | succ f ih =>
    intro S listed a hsz hfree hr hcl hSC hy H
    refine ⟨fun h => (by rw [h] at hr; cases hr), fun j hj => ?_⟩
    by_cases hji : j = i
    · subst hji
      exact step S listed a (f + 1) hSC (can S listed a hsz hr hcl hSC hy) H
    · obtain ⟨hjun, oj, hoj, hall⟩ := mem_ready.1 hj
      have hap : oi.apart ops oj = true := hfree j oj hoj hji hjun fun e he hb heq => by
        have h1 := hall e he hb
        have h0 := (mem_ready.1 hr).1
        rw [heq] at h1
        rcases Nat.lt_or_ge i listed.size with h' | h'
        · simp [h'] at h0 h1; rw [h0] at h1; cases h1
        · simp [Array.getElem?_eq_none h'] at h1
      have keep : ∀ k ok, ops[k]? = some ok → k ≠ i → (listed.setIfInBounds j true).getD k true = false → (∀ e ∈ ok.after, Region.binds md e = true → e.on ≠ i) → oi.apart ops ok = true := fun k ok hk hki hun hn => by
        refine hfree k ok hk hki ?_ hn
        by_cases hjk : j = k
        · subst hjk; exact hjun
        · rw [getD_set_ne true hjk] at hun; exact hun
      obtain ⟨T, hTC, hH⟩ := H.2 j (ready_mono hj hji)
      have hTC' : ∀ u w, T u w → (listed.setIfInBounds j true).getD z false = false → C w := fun u w hT hz => hTC u w hT (by
        rw [Array.setIfInBounds_comm _ _ (Ne.symm hji), getD_set_ne false hiz]; exact hz)
      refine ⟨T, hTC', fun w hS => ?_⟩
      have h2 := op_apart_eq hoj hap (fun cs b => hsel i oi cs b hi) (fun cs b => hsel j oj cs b hoj) hQ (hH w hS)
      obtain ⟨h1, h2', h3'⟩ := Oper.apart_spec hap
      refine wpOp_mono (fun a' w' h3 => ?_) h2
      obtain ⟨hsame, u, h4, h5⟩ := h3
      have hy' := hy.same hsame.1 hsame.2
      refine ⟨u, h4, ?_⟩
      refine ih (T u) (listed.setIfInBounds j true) a' (fun hn => by simp [hsz hn]) keep (ready_mono hr (Ne.symm hji)) (fun hn => (hcl hn).set hoj hall) (hTC' u) hy' ?_
      rw [Array.setIfInBounds_comm _ _ hji]
      exact h5

/-- The next operation of the text, one that reads what C says. -/
theorem g_take {S : World → Prop} {i : Nat} {oi : Oper} {v : Value} {f : Nat} {listed : Array Bool} {a : Act} (hSC : ∀ w, S w → listed.getD z false = false → C w) (hi : ops[i]? = some oi)
    (hs : Region.noSelect ops = true) (hf : Region.free md ops listed i = true) (hr : (Region.ready md ops listed).contains i = true) (hz : (i != z && listed.size == ops.size && (decide (ops.size ≤ z) || waitsFor md ops ops.size z i)) = true) (hcl : closedB md ops listed = true)
    (hQ : ∀ c a w, Q (.panic c) (a.put oi.dst v) w → Q (.panic c) a w) (hy : Still P ops C oi v a)
    (h : wpG P md ops Q z C f S (listed.setIfInBounds i true) (a.put oi.dst v)) : wpG P md ops Q z C (f + 1) S listed a := by
  simp only [Bool.and_eq_true, bne_iff_ne, beq_iff_eq, Bool.or_eq_true, decide_eq_true_eq] at hz
  exact g_first true hi (Region.noSelect_spec hs) hQ hz.1.1 (fun _ => hz.2) f S listed a (fun _ => hz.1.2) (Region.free_spec hi hf) (by simpa using hr) (fun _ => closed_of hcl) hSC (by rw [if_pos rfl]; exact hy) h
/-- The next operation of the text, one that hangs on the frame alone. -/
theorem g_free {S : World → Prop} {i : Nat} {oi : Oper} {v : Value} {f : Nat} {listed : Array Bool} {a : Act} (hSC : ∀ w, S w → listed.getD z false = false → C w) (hi : ops[i]? = some oi)
    (hs : Region.noSelect ops = true) (hf : Region.free md ops listed i = true) (hr : (Region.ready md ops listed).contains i = true) (hz : (i != z) = true)
    (hQ : ∀ c a w, Q (.panic c) (a.put oi.dst v) w → Q (.panic c) a w) (hy : Still P ops (fun _ => True) oi v a)
    (h : wpG P md ops Q z C f S (listed.setIfInBounds i true) (a.put oi.dst v)) : wpG P md ops Q z C (f + 1) S listed a := by
  simp only [bne_iff_ne] at hz
  exact g_first false hi (Region.noSelect_spec hs) hQ hz (fun h => by cases h) f S listed a (fun h => by cases h) (Region.free_spec hi hf) (by simpa using hr) (fun h => by cases h) hSC (by rw [if_neg (by simp)]; exact hy) h
theorem g_done {S : World → Prop} {listed : Array Bool} {a : Act} (hr : Region.ready md ops listed = []) (h : ∀ w, S w → Q .normal a w) : ∀ f, wpG P md ops Q z C f S listed a
  | 0 => ⟨hr, h⟩
  | _ + 1 => ⟨fun _ => h, by rw [hr]; simp⟩
/-- The next operation that turns the world, no other being ready. -/
theorem g_turn (T : Value → World → Prop) {S : World → Prop} {k f : Nat} {listed : Array Bool} {a : Act} (hr : Region.ready md ops listed = [k]) (hT : ∀ v w, T v w → (listed.setIfInBounds k true).getD z false = false → C w)
    (h : ∀ w, S w → wpOp P ops Q k (fun a' w' => ∃ v, T v w' ∧ wpG P md ops Q z C f (T v) (listed.setIfInBounds k true) a') a w) : wpG P md ops Q z C (f + 1) S listed a :=
  ⟨fun h => (by rw [hr] at h; cases h), fun i hi => by rw [hr, List.mem_singleton] at hi; subst hi; exact ⟨T, hT, h⟩⟩
/-- Two operations that turn the world, in either order. -/
theorem g_two (T U : Value → World → Prop) {S : World → Prop} {k l f : Nat} {listed : Array Bool} {a : Act} (hr : Region.ready md ops listed = [k, l]) (hT : ∀ v w, T v w → (listed.setIfInBounds k true).getD z false = false → C w)
    (hU : ∀ v w, U v w → (listed.setIfInBounds l true).getD z false = false → C w)
    (h1 : ∀ w, S w → wpOp P ops Q k (fun a' w' => ∃ v, T v w' ∧ wpG P md ops Q z C f (T v) (listed.setIfInBounds k true) a') a w)
    (h2 : ∀ w, S w → wpOp P ops Q l (fun a' w' => ∃ v, U v w' ∧ wpG P md ops Q z C f (U v) (listed.setIfInBounds l true) a') a w) : wpG P md ops Q z C (f + 1) S listed a :=
  ⟨fun h => (by rw [hr] at h; cases h), fun i hi => by
    rw [hr] at hi
    simp only [List.mem_cons, List.not_mem_nil, or_false] at hi
    rcases hi with rfl | rfl
    · exact ⟨T, hT, h1⟩
    · exact ⟨U, hU, h2⟩⟩
/-- The beginning. -/
theorem region_g (z : Nat) (C S : World → Prop) {id : Nat} {a : Act} {w : World} (hm : P.follows .mixedOrders = true) (hS : S w.drew)
    (h : wpG P .any ops Q z C ops.size S (Array.replicate ops.size false) a) : (Code.region id ops true).wp P Q a w :=
  wp_region_any hm (wpAny_of_g _ _ _ _ _ hS h)
/-- One step, as a call, as a value, as a store, at Oper.wp. -/
theorem at_call {T : Value → World → Prop} {S : World → Prop} {k f : Nat} {o : Oper} {listed : Array Bool} {a : Act} {fid : FuncId} {args : Array Value} {w : World}
    (hk : ops[k]? = some o) (hw : Region.wanted o (yielded ops a.tmps) = true) (hrun : (execOp a.eval o).run P w = .ok (.enter fid args) w)
    (hc : Calls P fid args w fun e w' => ∃ v, e = .returned v ∧ T v w')
    (h : ∀ v, (∃ w, T v w) → wpG P md ops Q z C f (T v) (listed.setIfInBounds k true) (a.put o.dst v)) : wpOp P ops Q k (fun a' w' => ∃ v, T v w' ∧ wpG P md ops Q z C f (T v) (listed.setIfInBounds k true) a') a w :=
  wpOp_call hk hw hrun (hc.mono fun e w' ⟨v, he, hT⟩ => ⟨v, he, v, hT, h v ⟨w', hT⟩⟩)
theorem at_value {T : Value → World → Prop} {k f : Nat} {o : Oper} {listed : Array Bool} {a : Act} {w : World}
    (hk : ops[k]? = some o) (hw : Region.wanted o (yielded ops a.tmps) = true) (hc : ∃ v w', (execOp a.eval o).run P w = .ok (.value v) w' ∧ T v w')
    (h : ∀ v, (∃ w, T v w) → wpG P md ops Q z C f (T v) (listed.setIfInBounds k true) (a.put o.dst v)) : wpOp P ops Q k (fun a' w' => ∃ v, T v w' ∧ wpG P md ops Q z C f (T v) (listed.setIfInBounds k true) a') a w := by
  obtain ⟨v, w', hrun, hT⟩ := hc
  exact wpOp_value hk hw hrun ⟨v, hT, h v ⟨w', hT⟩⟩
theorem at_skip {T : Value → World → Prop} {k f : Nat} {o : Oper} {listed : Array Bool} {a : Act} {w : World}
    (hk : ops[k]? = some o) (hw : Region.wanted o (yielded ops a.tmps) = true) (hc : ∃ w', (execOp a.eval o).run P w = .ok .skip w' ∧ T undef w')
    (h : wpG P md ops Q z C f (T undef) (listed.setIfInBounds k true) (a.put o.dst undef)) : wpOp P ops Q k (fun a' w' => ∃ v, T v w' ∧ wpG P md ops Q z C f (T v) (listed.setIfInBounds k true) a') a w := by
  obtain ⟨w', hrun, hT⟩ := hc
  unfold wpOp
  simp only [hk, hw, if_true]
  left
  unfold Oper.wp
  rw [hrun]
  exact ⟨undef, hT, h⟩
theorem at_oper {T : Value → World → Prop} {k f : Nat} {o : Oper} {listed : Array Bool} {a : Act} {w : World}
    (hk : ops[k]? = some o) (hw : Region.wanted o (yielded ops a.tmps) = true) (hc : ∀ K : Act → World → Prop, (∀ v w', T v w' → K (a.put o.dst v) w') → o.wp P a w K Q)
    (h : ∀ v, (∃ w, T v w) → wpG P md ops Q z C f (T v) (listed.setIfInBounds k true) (a.put o.dst v)) : wpOp P ops Q k (fun a' w' => ∃ v, T v w' ∧ wpG P md ops Q z C f (T v) (listed.setIfInBounds k true) a') a w := by
  unfold wpOp
  simp only [hk, hw, if_true]
  left
  exact hc _ fun v w' hT => ⟨v, hT, h v ⟨w', hT⟩⟩
end
end Go.Proofs.Ythkalaohaholaaa
