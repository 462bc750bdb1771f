/-
  Several texts in one: Rp, Rq, Sb, Sc, Rr, Ge, Gp, Gh, Tb.
-/
import Derived.Test.YtohncgikdlbogaaDoorE01
import Derived.Maps.OwnSet
import Derived.Lib.SliceRun
import Derived.Deep.MidRow
import Derived.Laws.EntriesVeiled
import Derived.Laws.ResultCell
import Derived.Laws.Rows
set_option linter.unusedVariables false
set_option linter.unusedSimpArgs false
namespace Go.Proofs.YtohncgikdlbogaaDoor
open Go.RowKit
section
variable {P : Program} {ops : Array Oper} {Q : Exit → Act → World → Prop} {md : Region.Mode}
def waitsFor (md : Region.Mode) (ops : Array Oper) : Nat → Nat → Nat → Bool
 | 0, _, _ => false
 | f + 1, k, i =>
  match ops[k]? with
  | some o => o.after.any fun e => Region.binds md e && (e.on == i || waitsFor md ops f e.on i)
  | none => false
def Closed (md : Region.Mode) (ops : Array Oper) (listed : Array Bool) : Prop := ∀ (j : Nat) (o : Oper), ops[j]? = some o → listed.getD j false = true → ∀ e ∈ o.after, Region.binds md e = true → listed.getD e.on false = true
def closedB (md : Region.Mode) (ops : Array Oper) (listed : Array Bool) : Bool :=
 (List.range ops.size).all fun j => !(listed.getD j false) || match ops[j]? with | some o => o.after.all (fun e => !(Region.binds md e) || listed.getD e.on false) | none => true
theorem closed_of {listed : Array Bool} (h : closedB md ops listed = true) : Closed md ops listed := by
 intro j o hj hl e he hb
 have hlt : j < ops.size := (Array.getElem?_eq_some_iff.1 hj).1
 unfold closedB at h
 have h1 := List.all_eq_true.1 h j (List.mem_range.2 hlt)
 rw [hj, hl] at h1
 simp only [Bool.not_true, Bool.false_or] at h1
 have h2 := Array.all_eq_true'.1 h1 e he
 rw [hb] at h2
 simpa using h2
theorem Closed.set {listed : Array Bool} {j : Nat} {oj : Oper} (h : Closed md ops listed) (hoj : ops[j]? = some oj) (hall : ∀ e ∈ oj.after, Region.binds md e = true → listed.getD e.on false = true) : Closed md ops (listed.setIfInBounds j true) := by
 intro i o hi hl e he hb
 by_cases hij : j = i
 · subst hij
   rw [hoj] at hi
   injection hi with hi
   subst hi
   exact getD_set_true (hall e he hb)
 · rw [getD_set_ne false hij] at hl
   exact getD_set_true (h i o hi hl e he hb)
theorem waits_listed {listed : Array Bool} (h : Closed md ops listed) : ∀ (f k i : Nat) (o : Oper), ops[k]? = some o → waitsFor md ops f k i = true → (∀ e ∈ o.after, Region.binds md e = true → listed.getD e.on false = true) → listed.getD i false = true
 | 0, _, _, _, _, hw, _ => by simp [waitsFor] at hw
 | f + 1, k, i, o, hk, hw, hd => by
  simp only [waitsFor, hk, Array.any_eq_true, Bool.and_eq_true, Bool.or_eq_true, beq_iff_eq] at hw
  obtain ⟨x, hx, hb, hor⟩ := hw
  have hl := hd _ (Array.getElem_mem hx) hb
  rcases hor with he | hw
  · rw [← he]; exact hl
  · cases ho : ops[(o.after[x]).on]? with
    | none =>
     cases f with
     | zero => simp [waitsFor] at hw
     | succ f => simp [waitsFor, ho] at hw
    | some o' => exact waits_listed h f _ i o' ho hw (h _ o' ho hl)
theorem GivesV.mono {S T : World → Prop} {v : Value} {r : Result Next} (h : GivesV P S v r) (hs : ∀ w, S w → T w) : GivesV P T v r := by
 unfold GivesV at *
 cases r with
 | halt x w => exact h
 | ok n w =>
  cases n with
  | value u => exact ⟨h.1, hs _ h.2⟩
  | skip => exact ⟨h.1, hs _ h.2⟩
  | enter f args => exact Calls.mono h fun e w' he => ⟨he.1, hs _ he.2⟩
  | _ => exact h
def Still (P : Program) (ops : Array Oper) (U : World → Prop) (o : Oper) (v : Value) (a : Act) : Prop :=
 (Region.wanted o (yielded ops a.tmps) = true ∧ ∀ w, U w → GivesV P (fun w' => w' = w) v ((execOp a.eval o).run P w)) ∨
 (Region.wanted o (yielded ops a.tmps) = false ∧ v = undef)
theorem Still.tame {U S : World → Prop} {o : Oper} {v : Value} {a : Act} (h : Still P ops U o v a) (hs : ∀ w, S w → U w) : Tame P ops S o v a := by
 rcases h with ⟨h1, h2⟩ | h
 · exact .inl ⟨h1, fun w hw => (h2 w (hs w hw)).mono fun w' h => h ▸ hw⟩
 · exact .inr h
theorem Still.yes {U : World → Prop} {o : Oper} {v : Value} {a : Act} (hw : Region.wanted o (yielded ops a.tmps) = true) (h : ∀ w, U w → GivesV P (fun w' => w' = w) v ((execOp a.eval o).run P w)) : Still P ops U o v a := .inl ⟨hw, h⟩
theorem Still.no {U : World → Prop} {o : Oper} {a : Act} (hw : Region.wanted o (yielded ops a.tmps) = false) : Still P ops U o undef a := .inr ⟨hw, rfl⟩
theorem wpOp_value {k : Nat} {o : Oper} {v : Value} {a : Act} {K : Act → World → Prop} {w w' : World} (hk : ops[k]? = some o) (hw : Region.wanted o (yielded ops a.tmps) = true)
    (hrun : (execOp a.eval o).run P w = .ok (.value v) w') (hK : K (a.put o.dst v) w') : wpOp P ops Q k K a w := by
 unfold wpOp
 simp only [hk, hw, if_true]
 left
 unfold Oper.wp
 rw [hrun]
 exact hK
theorem wpOp_call {k : Nat} {o : Oper} {a : Act} {K : Act → World → Prop} {w w' : World} {f : FuncId} {args : Array Value} (hk : ops[k]? = some o) (hw : Region.wanted o (yielded ops a.tmps) = true)
    (hrun : (execOp a.eval o).run P w = .ok (.enter f args) w') (hK : Calls P f args w' fun e w'' => ∃ v, e = .returned v ∧ K (a.put o.dst v) w'') : wpOp P ops Q k K a w := by
 unfold wpOp
 simp only [hk, hw, if_true]
 left
 unfold Oper.wp
 rw [hrun]
 simp only [Oper.upon]
 exact Calls.mono hK fun e w'' ⟨v, he, h⟩ => by subst he; exact h
end
section
variable {P : Program} {ops : Array Oper} {Q : Exit → Act → World → Prop} {md : Region.Mode} {z : Nat} {C : World → Prop}
def wpG (P : Program) (md : Region.Mode) (ops : Array Oper) (Q : Exit → Act → World → Prop) (z : Nat) (C : World → Prop) : Nat → (World → Prop) → Array Bool → Act → Prop
 | 0, S, listed, a => Region.ready md ops listed = [] ∧ ∀ w, S w → Q .normal a w
 | f + 1, S, listed, a => (Region.ready md ops listed = [] → ∀ w, S w → Q .normal a w) ∧
     ∀ i ∈ Region.ready md ops listed, ∃ T : Value → World → Prop, (∀ v w, T v w → (listed.setIfInBounds i true).getD z false = false → C w) ∧
      ∀ w, S w → wpOp P ops Q i (fun a' w' => ∃ v, T v w' ∧ wpG P md ops Q z C f (T v) (listed.setIfInBounds i true) a') a w
theorem wpAny_of_g : ∀ (f : Nat) (S : World → Prop) (listed : Array Bool) (a : Act) (w : World), S w → wpG P md ops Q z C f S listed a → wpAny P md ops Q f listed a w
 | 0, _, _, _, _, hS, h => ⟨h.1, h.2 _ hS⟩
 | f + 1, _, _, _, _, hS, h => ⟨fun h0 => h.1 h0 _ hS, fun i hi => by
     obtain ⟨T, _, h2⟩ := h.2 i hi
     exact wpOp_mono (fun a' w' ⟨v, h', h''⟩ => wpAny_of_g f (T v) _ a' w' h' h'') (h2 _ hS)⟩
theorem op_apart_eq {j : Nat} {oi oj : Oper} {v : Value} {a : Act} {w : World} (hj : ops[j]? = some oj) (hap : oi.apart ops oj = true)
    (hsi : ∀ cs b, oi.op ≠ .select cs b) (hsj : ∀ cs b, oj.op ≠ .select cs b)
    (hQ : ∀ c a w, Q (.panic c) (a.put oi.dst v) w → Q (.panic c) a w) {K : Act → World → Prop}
    (h : wpOp P ops Q j K (a.put oi.dst v) w) :
    wpOp P ops Q j (fun a' w' => (execOp a'.eval oi = execOp a.eval oi ∧ Region.wanted oi (yielded ops a'.tmps) = Region.wanted oi (yielded ops a.tmps)) ∧ K (a'.put oi.dst v) w') a w := by
 obtain ⟨h1, h2, h3⟩ := Oper.apart_spec hap
 have keep : ∀ u, execOp (a.put oj.dst u).eval oi = execOp a.eval oi ∧ Region.wanted oi (yielded ops (a.put oj.dst u).tmps) = Region.wanted oi (yielded ops a.tmps) := fun u => ⟨execOp_put oi hsi a oj.dst u h3, wanted_put oi a oj.dst u h3⟩
 have swap : ∀ u w', K ((a.put oi.dst v).put oj.dst u) w' → (execOp (a.put oj.dst u).eval oi = execOp a.eval oi ∧ Region.wanted oi (yielded ops (a.put oj.dst u).tmps) = Region.wanted oi (yielded ops a.tmps)) ∧ K ((a.put oj.dst u).put oi.dst v) w' :=
  fun u w' hk => ⟨keep u, by rw [← Act.put_comm a v u h2]; exact hk⟩
 unfold wpOp at *
 simp only [hj] at *
 rw [wanted_put oj a oi.dst v h1] at h
 split
 · rename_i hw
   simp only [hw, if_true] at h
   rcases h with h | ⟨hasks, hlets⟩
   · left
     unfold Oper.wp at *
     rw [execOp_put oj hsj a oi.dst v h1] at h
     generalize (execOp a.eval oj).run P w = r at *
     cases r with
     | ok n w' =>
      cases n <;> simp only [Oper.upon] at h ⊢
      case value u => exact swap u w' h
      case skip => exact swap _ w' h
      case defer d =>
       refine ⟨⟨execOp_put oi hsi { a with defers := d :: a.defers } oj.dst _ h3, wanted_put oi { a with defers := d :: a.defers } oj.dst _ h3⟩, ?_⟩
       rw [← Act.put_comm _ v undef h2, ← Act.put_defers]
       exact h
      case enter f args =>
       refine Calls.mono h fun e w'' he => ?_
       cases e with
       | returned u => exact swap u w'' he
       | panicked c => exact hQ _ _ _ he
       | outgrown => exact he
      case row row args => exact Rows.mono h fun u w'' he => swap u w'' he
     | halt x w' =>
      cases x <;> simp only [Oper.upon] at h ⊢
      case panic u => exact hQ _ _ _ h
   · right
     unfold Oper.asks at *
     rw [execOp_put oj hsj a oi.dst v h1] at hasks
     exact ⟨hasks, hlets⟩
 · rename_i hw
   simp only [hw] at h
   exact swap _ w h
theorem Still.same {U : World → Prop} {o : Oper} {v : Value} {a b : Act} (h : Still P ops U o v a) (he : execOp b.eval o = execOp a.eval o)
    (hw : Region.wanted o (yielded ops b.tmps) = Region.wanted o (yielded ops a.tmps)) : Still P ops U o v b := by
 unfold Still at *
 rw [he, hw]
 exact h
theorem g_first (needs : Bool) {i : Nat} {oi : Oper} {v : Value} (hi : ops[i]? = some oi) (hsel : ∀ (j : Nat) (o : Oper) cs b, ops[j]? = some o → o.op ≠ .select cs b)
    (hQ : ∀ c a w, Q (.panic c) (a.put oi.dst v) w → Q (.panic c) a w) (hiz : i ≠ z) (hw : needs = true → ops.size ≤ z ∨ waitsFor md ops ops.size z i = true) :
    ∀ (f : Nat) (S : World → Prop) (listed : Array Bool) (a : Act), (needs = true → listed.size = ops.size) →
     (∀ j oj, ops[j]? = some oj → j ≠ i → listed.getD j true = false → (∀ e ∈ oj.after, Region.binds md e = true → e.on ≠ i) → oi.apart ops oj = true) →
     i ∈ Region.ready md ops listed → (needs = true → Closed md ops listed) → (∀ w, S w → listed.getD z false = false → C w) →
     Still P ops (if needs = true then C else fun _ => True) oi v a →
     wpG P md ops Q z C f S (listed.setIfInBounds i true) (a.put oi.dst v) → wpG P md ops Q z C (f + 1) S listed a := by
 -- in every world of such a phase the operation can be carried out
 have can : ∀ (S : World → Prop) (listed : Array Bool) (a : Act), (needs = true → listed.size = ops.size) → i ∈ Region.ready md ops listed → (needs = true → Closed md ops listed) → (∀ w, S w → listed.getD z false = false → C w) →
     Still P ops (if needs = true then C else fun _ => True) oi v a → Tame P ops S oi v a := fun S listed a hsz hr hcl hSC hy => hy.tame fun w hS => by
  by_cases hn : needs = true
  · rw [if_pos hn]
    refine hSC w hS ?_
    have h0 := (mem_ready.1 hr).1
    cases hz : listed.getD z false with
    | false => rfl
    | true =>
     exfalso
     rcases hw hn with hge | hwz
     · have : listed.getD z false = false := by simp [Array.getElem?_eq_none (show listed.size ≤ z by rw [hsz hn]; exact hge)]
       rw [this] at hz; cases hz
     · cases ho : ops[z]? with
       | none =>
        have : ∀ f, waitsFor md ops (f + 1) z i = false := fun f => by simp [waitsFor, ho]
        cases hs : ops.size with
        | zero => rw [hs] at hwz; simp [waitsFor] at hwz
        | succ f => rw [hs, this] at hwz; cases hwz
       | some oz =>
        have h1 := waits_listed (hcl hn) _ _ _ oz ho hwz ((hcl hn) z oz ho hz)
        rcases Nat.lt_or_ge i listed.size with h' | h'
        · simp [h'] at h0 h1; rw [h0] at h1; cases h1
        · simp [Array.getElem?_eq_none h'] at h1
  · rw [if_neg hn]; trivial
 have step : ∀ (S : World → Prop) (listed : Array Bool) (a : Act) (f : Nat), (∀ w, S w → listed.getD z false = false → C w) → Tame P ops S oi v a → wpG P md ops Q z C f S (listed.setIfInBounds i true) (a.put oi.dst v) →
     ∃ T : Value → World → Prop, (∀ v w, T v w → (listed.setIfInBounds i true).getD z false = false → C w) ∧
      ∀ w, S w → wpOp P ops Q i (fun a' w' => ∃ v, T v w' ∧ wpG P md ops Q z C f (T v) (listed.setIfInBounds i true) a') a w := fun S listed a f hSC hy H =>
  ⟨fun _ => S, fun _ w hS hz => hSC w hS (by rwa [getD_set_ne false hiz] at hz), fun w hS => hy.op hi hS fun w' h' => ⟨undef, h', H⟩⟩
 intro f
 induction f with
 | zero =>
  intro S listed a hsz _ hr hcl hSC hy H
  refine ⟨fun h => (by rw [h] at hr; cases hr), fun j hj => ?_⟩
  by_cases hji : j = i
  · subst hji
    exact step S listed a 0 hSC (can S listed a hsz hr hcl hSC hy) H
  · have h0 := ready_mono hj hji
    rw [H.1] at h0
    cases h0
 | succ f ih =>
  intro S listed a hsz hfree hr hcl hSC hy H
  refine ⟨fun h => (by rw [h] at hr; cases hr), fun j hj => ?_⟩
  by_cases hji : j = i
  · subst hji
    exact step S listed a (f + 1) hSC (can S listed a hsz hr hcl hSC hy) H
  · obtain ⟨hjun, oj, hoj, hall⟩ := mem_ready.1 hj
    have hap : oi.apart ops oj = true := hfree j oj hoj hji hjun fun e he hb heq => by
     have h1 := hall e he hb
     have h0 := (mem_ready.1 hr).1
     rw [heq] at h1
     rcases Nat.lt_or_ge i listed.size with h' | h'
     · simp [h'] at h0 h1; rw [h0] at h1; cases h1
     · simp [Array.getElem?_eq_none h'] at h1
    have keep : ∀ k ok, ops[k]? = some ok → k ≠ i → (listed.setIfInBounds j true).getD k true = false → (∀ e ∈ ok.after, Region.binds md e = true → e.on ≠ i) → oi.apart ops ok = true := fun k ok hk hki hun hn => by
     refine hfree k ok hk hki ?_ hn
     by_cases hjk : j = k
     · subst hjk; exact hjun
     · rw [getD_set_ne true hjk] at hun; exact hun
    obtain ⟨T, hTC, hH⟩ := H.2 j (ready_mono hj hji)
    have hTC' : ∀ u w, T u w → (listed.setIfInBounds j true).getD z false = false → C w := fun u w hT hz => hTC u w hT (by
     rw [Array.setIfInBounds_comm _ _ (Ne.symm hji), getD_set_ne false hiz]; exact hz)
    refine ⟨T, hTC', fun w hS => ?_⟩
    have h2 := op_apart_eq hoj hap (fun cs b => hsel i oi cs b hi) (fun cs b => hsel j oj cs b hoj) hQ (hH w hS)
    obtain ⟨h1, h2', h3'⟩ := Oper.apart_spec hap
    refine wpOp_mono (fun a' w' h3 => ?_) h2
    obtain ⟨hsame, u, h4, h5⟩ := h3
    have hy' := hy.same hsame.1 hsame.2
    refine ⟨u, h4, ?_⟩
    refine ih (T u) (listed.setIfInBounds j true) a' (fun hn => by simp [hsz hn]) keep (ready_mono hr (Ne.symm hji)) (fun hn => (hcl hn).set hoj hall) (hTC' u) hy' ?_
    rw [Array.setIfInBounds_comm _ _ hji]
    exact h5
theorem g_take {S : World → Prop} {i : Nat} {oi : Oper} {v : Value} {f : Nat} {listed : Array Bool} {a : Act} (hSC : ∀ w, S w → listed.getD z false = false → C w) (hi : ops[i]? = some oi)
    (hs : Region.noSelect ops = true) (hf : Region.free md ops listed i = true) (hr : (Region.ready md ops listed).contains i = true) (hz : (i != z && listed.size == ops.size && (decide (ops.size ≤ z) || waitsFor md ops ops.size z i)) = true) (hcl : closedB md ops listed = true)
    (hQ : ∀ c a w, Q (.panic c) (a.put oi.dst v) w → Q (.panic c) a w) (hy : Still P ops C oi v a)
    (h : wpG P md ops Q z C f S (listed.setIfInBounds i true) (a.put oi.dst v)) : wpG P md ops Q z C (f + 1) S listed a := by
 simp only [Bool.and_eq_true, bne_iff_ne, beq_iff_eq, Bool.or_eq_true, decide_eq_true_eq] at hz
 exact g_first true hi (Region.noSelect_spec hs) hQ hz.1.1 (fun _ => hz.2) f S listed a (fun _ => hz.1.2) (Region.free_spec hi hf) (by simpa using hr) (fun _ => closed_of hcl) hSC (by rw [if_pos rfl]; exact hy) h
theorem g_tk (i : Nat) {S : World → Prop} {oi : Oper} {v : Value} {f : Nat} {listed : Array Bool} {a : Act} (hSC : ∀ (l : Array Bool) w, S w → l.getD z false = false → C w) (hQ : ∀ c a d v w, Q (.panic c) (a.put d v) w → Q (.panic c) a w)
    (hy : ∀ w, C w → GivesV P (fun w' => w' = w) v ((execOp a.eval oi).run P w)) (h : wpG P md ops Q z C f S (listed.setIfInBounds i true) (a.put oi.dst v)) (hi : ops[i]? = some oi := by rfl) (hs : Region.noSelect ops = true := by kernel_rfl) (hf : Region.free md ops listed i = true := by kernel_rfl)
    (hr : (Region.ready md ops listed).contains i = true := by kernel_rfl) (hz : (i != z && listed.size == ops.size && (decide (ops.size ≤ z) || waitsFor md ops ops.size z i)) = true := by kernel_rfl) (hcl : closedB md ops listed = true := by kernel_rfl) (hw : Region.wanted oi (yielded ops a.tmps) = true := by kernel_rfl) :
    wpG P md ops Q z C (f + 1) S listed a := g_take (hSC _) hi hs hf hr hz hcl (fun c a w h => hQ c a _ _ w h) (Still.yes hw hy) h
theorem g_free {S : World → Prop} {i : Nat} {oi : Oper} {v : Value} {f : Nat} {listed : Array Bool} {a : Act} (hSC : ∀ w, S w → listed.getD z false = false → C w) (hi : ops[i]? = some oi)
    (hs : Region.noSelect ops = true) (hf : Region.free md ops listed i = true) (hr : (Region.ready md ops listed).contains i = true) (hz : (i != z) = true)
    (hQ : ∀ c a w, Q (.panic c) (a.put oi.dst v) w → Q (.panic c) a w) (hy : Still P ops (fun _ => True) oi v a)
    (h : wpG P md ops Q z C f S (listed.setIfInBounds i true) (a.put oi.dst v)) : wpG P md ops Q z C (f + 1) S listed a := by
 simp only [bne_iff_ne] at hz
 exact g_first false hi (Region.noSelect_spec hs) hQ hz (fun h => by cases h) f S listed a (fun h => by cases h) (Region.free_spec hi hf) (by simpa using hr) (fun h => by cases h) hSC (by rw [if_neg (by simp)]; exact hy) h
theorem g_done {S : World → Prop} {listed : Array Bool} {a : Act} (hr : Region.ready md ops listed = []) (h : ∀ w, S w → Q .normal a w) : ∀ f, wpG P md ops Q z C f S listed a
 | 0 => ⟨hr, h⟩
 | _ + 1 => ⟨fun _ => h, by rw [hr]; simp⟩
theorem g_turn (T : Value → World → Prop) {S : World → Prop} {k f : Nat} {listed : Array Bool} {a : Act} (hr : Region.ready md ops listed = [k]) (hT : ∀ v w, T v w → (listed.setIfInBounds k true).getD z false = false → C w)
    (h : ∀ w, S w → wpOp P ops Q k (fun a' w' => ∃ v, T v w' ∧ wpG P md ops Q z C f (T v) (listed.setIfInBounds k true) a') a w) : wpG P md ops Q z C (f + 1) S listed a :=
 ⟨fun h => (by rw [hr] at h; cases h), fun i hi => by rw [hr, List.mem_singleton] at hi; subst hi; exact ⟨T, hT, h⟩⟩
theorem g_two (T U : Value → World → Prop) {S : World → Prop} {k l f : Nat} {listed : Array Bool} {a : Act} (hr : Region.ready md ops listed = [k, l]) (hT : ∀ v w, T v w → (listed.setIfInBounds k true).getD z false = false → C w)
    (hU : ∀ v w, U v w → (listed.setIfInBounds l true).getD z false = false → C w)
    (h1 : ∀ w, S w → wpOp P ops Q k (fun a' w' => ∃ v, T v w' ∧ wpG P md ops Q z C f (T v) (listed.setIfInBounds k true) a') a w)
    (h2 : ∀ w, S w → wpOp P ops Q l (fun a' w' => ∃ v, U v w' ∧ wpG P md ops Q z C f (U v) (listed.setIfInBounds l true) a') a w) : wpG P md ops Q z C (f + 1) S listed a :=
 ⟨fun h => (by rw [hr] at h; cases h), fun i hi => by
  rw [hr] at hi
  simp only [List.mem_cons, List.not_mem_nil, or_false] at hi
  rcases hi with rfl | rfl
  · exact ⟨T, hT, h1⟩
  · exact ⟨U, hU, h2⟩⟩
theorem region_g (z : Nat) (C S : World → Prop) {id : Nat} {a : Act} {w : World} (hm : P.follows .mixedOrders = true) (hS : S w.drew)
    (h : wpG P .any ops Q z C ops.size S (Array.replicate ops.size false) a) : (Code.region id ops true).wp P Q a w :=
 wp_region_any hm (wpAny_of_g _ _ _ _ _ hS h)
theorem at_call {T : Value → World → Prop} {S : World → Prop} {k f : Nat} {o : Oper} {listed : Array Bool} {a : Act} {fid : FuncId} {args : Array Value} {w : World}
    (hk : ops[k]? = some o) (hw : Region.wanted o (yielded ops a.tmps) = true) (hrun : (execOp a.eval o).run P w = .ok (.enter fid args) w)
    (hc : Calls P fid args w fun e w' => ∃ v, e = .returned v ∧ T v w')
    (h : ∀ v, (∃ w, T v w) → wpG P md ops Q z C f (T v) (listed.setIfInBounds k true) (a.put o.dst v)) : wpOp P ops Q k (fun a' w' => ∃ v, T v w' ∧ wpG P md ops Q z C f (T v) (listed.setIfInBounds k true) a') a w :=
 wpOp_call hk hw hrun (hc.mono fun e w' ⟨v, he, hT⟩ => ⟨v, he, v, hT, h v ⟨w', hT⟩⟩)
theorem at_value {T : Value → World → Prop} {k f : Nat} {o : Oper} {listed : Array Bool} {a : Act} {w : World}
    (hk : ops[k]? = some o) (hw : Region.wanted o (yielded ops a.tmps) = true) (hc : ∃ v w', (execOp a.eval o).run P w = .ok (.value v) w' ∧ T v w')
    (h : ∀ v, (∃ w, T v w) → wpG P md ops Q z C f (T v) (listed.setIfInBounds k true) (a.put o.dst v)) : wpOp P ops Q k (fun a' w' => ∃ v, T v w' ∧ wpG P md ops Q z C f (T v) (listed.setIfInBounds k true) a') a w := by
 obtain ⟨v, w', hrun, hT⟩ := hc
 exact wpOp_value hk hw hrun ⟨v, hT, h v ⟨w', hT⟩⟩
theorem at_skip {T : Value → World → Prop} {k f : Nat} {o : Oper} {listed : Array Bool} {a : Act} {w : World}
    (hk : ops[k]? = some o) (hw : Region.wanted o (yielded ops a.tmps) = true) (hc : ∃ w', (execOp a.eval o).run P w = .ok .skip w' ∧ T undef w')
    (h : wpG P md ops Q z C f (T undef) (listed.setIfInBounds k true) (a.put o.dst undef)) : wpOp P ops Q k (fun a' w' => ∃ v, T v w' ∧ wpG P md ops Q z C f (T v) (listed.setIfInBounds k true) a') a w := by
 obtain ⟨w', hrun, hT⟩ := hc
 unfold wpOp
 simp only [hk, hw, if_true]
 left
 unfold Oper.wp
 rw [hrun]
 exact ⟨undef, hT, h⟩
end
open Go.RowKit Go.Maps
section
variable {P : Program} {ops : Array Oper} {Q : Exit → Act → World → Prop} {md : Region.Mode}
def rgPre (ms : List Nat) (i j : Nat) : Bool := (ms.getD i 0).testBit j
def rgMask (md : Region.Mode) (ms : List Nat) (l : List Edge) : Nat := l.foldl (fun m e => if Region.binds md e then m ||| (1 <<< e.on) ||| ms.getD e.on 0 else m) 0
def rgMasks (md : Region.Mode) (ops : Array Oper) : List Nat := ops.toList.foldl (fun ms o => ms ++ [rgMask md ms o.after.toList]) []
def rgEdge (md : Region.Mode) (ms : List Nat) (i : Nat) (o : Oper) : Bool := !rgPre ms i i && (ms.getD i 0 >>> i) == 0 && o.after.toList.all fun e => !Region.binds md e || (decide (e.on < i) && rgPre ms i e.on)
def rgPair (md : Region.Mode) (ops : Array Oper) (ms : List Nat) (i j : Nat) (o oj : Oper) : Bool :=
 (!rgPre ms i j || (decide (j < i) && o.after.toList.any fun e => Region.binds md e && (e.on == j || rgPre ms e.on j))) &&
 (match o.dst with | some d => oj.dst != some d | none => true) &&
 (rgPre ms i j || rgPre ms j i || (match oj.dst with | some d => !(o.looksAt ops).contains d | none => true))
def rgOk (md : Region.Mode) (ops : Array Oper) (ms : List Nat) : Bool :=
 Region.noSelect ops && (List.range ops.size).all fun i => match ops[i]? with
  | none => true
  | some o => rgEdge md ms i o && (List.range ops.size).all fun j => j == i || match ops[j]? with
   | none => true
   | some oj => rgPair md ops ms i j o oj
structure RgOk (md : Region.Mode) (ops : Array Oper) (ms : List Nat) : Prop where
 sel : ∀ (j : Nat) (o : Oper) cs b, ops[j]? = some o → o.op ≠ .select cs b
 self : ∀ (i : Nat) (o : Oper), ops[i]? = some o → rgPre ms i i = false
 lt : ∀ (i j : Nat) (o : Oper), ops[i]? = some o → rgPre ms i j = true → j < i
 edge : ∀ (i : Nat) (o : Oper), ops[i]? = some o → ∀ e ∈ o.after, Region.binds md e = true → e.on < i ∧ rgPre ms i e.on = true
 pre : ∀ (i j : Nat) (o oj : Oper), ops[i]? = some o → ops[j]? = some oj → rgPre ms i j = true → j < i ∧ ∃ e ∈ o.after, Region.binds md e = true ∧ (e.on = j ∨ rgPre ms e.on j = true)
 dst : ∀ (i j : Nat) (o oj : Oper) (d : Tmp), ops[i]? = some o → ops[j]? = some oj → i ≠ j → o.dst = some d → oj.dst ≠ some d
 looks : ∀ (i j : Nat) (o oj : Oper), ops[i]? = some o → ops[j]? = some oj → i ≠ j → rgPre ms i j = false → rgPre ms j i = false → ∀ d, oj.dst = some d → d ∉ o.looksAt ops
theorem rgOk_spec {ms : List Nat} (h : rgOk md ops ms = true) : RgOk md ops ms := by
 unfold rgOk at h
 rw [Bool.and_eq_true] at h
 obtain ⟨hs, h⟩ := h
 have get : ∀ i o, ops[i]? = some o → rgEdge md ms i o = true ∧ ∀ j oj, ops[j]? = some oj → j ≠ i → rgPair md ops ms i j o oj = true := fun i o hi => by
  have h1 := List.all_eq_true.1 h i (List.mem_range.2 (Array.getElem?_eq_some_iff.1 hi).1)
  simp only [hi, Bool.and_eq_true] at h1
  refine ⟨h1.1, fun j oj hj hne => ?_⟩
  have h2 := List.all_eq_true.1 h1.2 j (List.mem_range.2 (Array.getElem?_eq_some_iff.1 hj).1)
  simp only [hj, Bool.or_eq_true, beq_iff_eq, hne, false_or] at h2
  exact h2
 have self : ∀ i o, ops[i]? = some o → rgPre ms i i = false := fun i o hi => by
  have := (get i o hi).1
  unfold rgEdge at this
  simp only [Bool.and_eq_true, Bool.not_eq_true'] at this
  exact this.1.1
 refine ⟨Region.noSelect_spec hs, self, fun i j o hi hp => ?_, fun i o hi e he hb => ?_, fun i j o oj hi hj hp => ?_, fun i j o oj d hi hj hne hd => ?_, fun i j o oj hi hj hne h1 h2 d hd => ?_⟩
 · have := (get i o hi).1
   unfold rgEdge at this
   simp only [Bool.and_eq_true, beq_iff_eq] at this
   have h0 := this.1.2
   unfold rgPre at hp
   rcases Nat.lt_or_ge j i with h | h
   · exact h
   · exfalso
     have h1 : (ms.getD i 0 >>> i).testBit (j - i) = true := by rw [Nat.testBit_shiftRight, show i + (j - i) = j by omega]; exact hp
     rw [h0] at h1
     simp at h1
 · have := (get i o hi).1
   unfold rgEdge at this
   rw [Bool.and_eq_true] at this
   have := List.all_eq_true.1 this.2 e (Array.mem_toList_iff.2 he)
   simpa [hb] using this
 · by_cases hij : j = i
   · subst hij; rw [self j o hi] at hp; cases hp
   · have := (get i o hi).2 j oj hj hij
     unfold rgPair at this
     simp only [hp, Bool.not_true, Bool.false_or, Bool.and_eq_true, decide_eq_true_eq, List.any_eq_true, Bool.or_eq_true, beq_iff_eq, Array.mem_toList_iff] at this
     exact ⟨this.1.1.1, this.1.1.2.elim fun e he => ⟨e, he.1, he.2⟩⟩
 · have := (get i o hi).2 j oj hj (Ne.symm hne)
   unfold rgPair at this
   simp only [Bool.and_eq_true, hd] at this
   simpa using this.1.2
 · have := (get i o hi).2 j oj hj (Ne.symm hne)
   unfold rgPair at this
   simp only [Bool.and_eq_true, h1, h2, Bool.false_or, hd] at this
   simpa using this.2
def GivesM' (P : Program) (R : Value → World → Prop) : Result Next → Prop
 | .ok (.value u) w' => R u w'
 | .ok .skip w' => R undef w'
 | .ok (.enter f args) w' => Calls P f args w' fun e w'' => ∃ v, e = .returned v ∧ R v w''
 | _ => False
structure GivesM (P : Program) (R : Value → World → Prop) (r : Result Next) : Prop where
 out : GivesM' P R r
def GivesP' (v : Value) (w : World) : Result Next → Prop
 | .ok (.value u) w' => u = v ∧ w' = w
 | .ok .skip w' => v = undef ∧ w' = w
 | _ => False
structure GivesP (v : Value) (w : World) (r : Result Next) : Prop where
 out : GivesP' v w r
def StillP (P : Program) (ops : Array Oper) (U : World → Prop) (o : Oper) (v : Value) (a : Act) : Prop :=
 (Region.wanted o (yielded ops a.tmps) = true ∧ ∀ w, U w → GivesP v w ((execOp a.eval o).run P w)) ∨ (Region.wanted o (yielded ops a.tmps) = false ∧ v = undef)
def MakesM (P : Program) (ops : Array Oper) (U : World → Prop) (o : Oper) (R : World → Value → World → Prop) (a : Act) : Prop :=
 Region.wanted o (yielded ops a.tmps) = true ∧ ∀ w, U w → GivesM P (R w) ((execOp a.eval o).run P w)
theorem StillP.op {U : World → Prop} {i : Nat} {o : Oper} {v : Value} {a : Act} (hi : ops[i]? = some o) (h : StillP P ops U o v a)
    {K : Act → World → Prop} {w : World} (hU : U w) (hK : K (a.put o.dst v) w) : wpOp P ops Q i K a w := by
 unfold wpOp
 simp only [hi]
 rcases h with ⟨hw, hv⟩ | ⟨hw, rfl⟩
 · simp only [hw, if_true]
   left
   have h2 := (hv w hU).out
   unfold Oper.wp
   generalize (execOp a.eval o).run P w = r at *
   cases r with
   | halt x w' => exact h2.elim
   | ok n w' =>
    cases n with
    | value u => obtain ⟨rfl, rfl⟩ := h2; exact hK
    | skip => obtain ⟨rfl, rfl⟩ := h2; exact hK
    | _ => exact h2.elim
 · simp only [hw, Bool.false_eq_true, if_false]
   exact hK
theorem MakesM.op {U : World → Prop} {i : Nat} {o : Oper} {R : World → Value → World → Prop} {a : Act} (hi : ops[i]? = some o) (h : MakesM P ops U o R a)
    {K : Act → World → Prop} {w : World} (hU : U w) (hK : ∀ v w', R w v w' → K (a.put o.dst v) w') : wpOp P ops Q i K a w := by
 obtain ⟨hw, hv⟩ := h
 unfold wpOp
 simp only [hi, hw, if_true]
 left
 have h2 := (hv w hU).out
 unfold Oper.wp
 generalize (execOp a.eval o).run P w = r at *
 cases r with
 | halt x w' => exact h2.elim
 | ok n w' =>
  cases n with
  | value u => exact hK _ _ h2
  | skip => exact hK _ _ h2
  | enter f args =>
   refine Calls.mono h2 fun e w'' he => ?_
   obtain ⟨v, rfl, h3⟩ := he
   exact hK _ _ h3
  | _ => exact h2.elim
theorem StillP.uniq {U U' : World → Prop} {o : Oper} {v v' : Value} {a b : Act} (h : StillP P ops U o v a) (h' : StillP P ops U' o v' b) (he : execOp b.eval o = execOp a.eval o)
    (hw : Region.wanted o (yielded ops b.tmps) = Region.wanted o (yielded ops a.tmps)) {w : World} (hU : U w) (hU' : U' w) : v' = v := by
 unfold StillP at h'
 rw [he, hw] at h'
 rcases h with ⟨h1, h2⟩ | ⟨h1, rfl⟩
 · rcases h' with ⟨_, h4⟩ | ⟨h3, _⟩
   · have k1 := (h2 w hU).out
     have k2 := (h4 w hU').out
     generalize (execOp a.eval o).run P w = r at *
     cases r with
     | halt x w' => exact k1.elim
     | ok n w' =>
      cases n with
      | value u => exact k2.1.symm.trans k1.1
      | skip => exact k2.1.trans k1.1.symm
      | _ => exact k1.elim
   · rw [h1] at h3; cases h3
 · rcases h' with ⟨h3, _⟩ | ⟨_, rfl⟩
   · rw [h1] at h3; cases h3
   · rfl
def actOf (ops : Array Oper) (a0 : Act) (val : Nat → Value) (L : Nat → Bool) : Nat → Act
 | 0 => a0
 | m + 1 => if L m = true then (actOf ops a0 val L m).put ((ops[m]?).bind (·.dst)) (val m) else actOf ops a0 val L m
theorem actOf_congr {a0 : Act} {val val' : Nat → Value} {L L' : Nat → Bool} : ∀ m, (∀ j < m, L j = L' j) → (∀ j < m, L j = true → val j = val' j) → actOf ops a0 val L m = actOf ops a0 val' L' m
 | 0, _, _ => rfl
 | m + 1, h, hv => by
  unfold actOf
  rw [actOf_congr m (fun j hj => h j (by omega)) (fun j hj => hv j (by omega)), h m (by omega)]
  split
  · rename_i hl; rw [hv m (by omega) (by rw [h m (by omega)]; exact hl)]
  · rfl
theorem actOf_none {a0 : Act} {val : Nat → Value} {L : Nat → Bool} (m : Nat) (h : ∀ j < m, L j = false) : actOf ops a0 val L m = a0 := by
 induction m with
 | zero => rfl
 | succ m ih => unfold actOf; rw [h m (by omega), ih fun j hj => h j (by omega)]; simp
theorem actOf_stop {a0 : Act} {val : Nat → Value} {L : Nat → Bool} (i : Nat) : ∀ m, i ≤ m → (∀ j < m, i ≤ j → L j = false) → actOf ops a0 val L m = actOf ops a0 val L i
 | 0, h, _ => by
  have : i = 0 := by omega
  subst this
  rfl
 | m + 1, h, hl => by
  by_cases he : i = m + 1
  · subst he; rfl
  · rw [← actOf_stop i m (by omega) fun j hj hij => hl j (by omega) hij]
    conv => lhs; unfold actOf
    rw [hl m (by omega) (by omega)]
    simp
theorem actOf_last {ms : List Nat} (ok : RgOk md ops ms) {a0 : Act} {val : Nat → Value} {L : Nat → Bool} {k : Nat} (hk : L k = true) : ∀ m, k < m → m ≤ ops.size →
    actOf ops a0 val L m = (actOf ops a0 val (fun j => L j && j != k) m).put ((ops[k]?).bind (·.dst)) (val k)
 | 0, h, _ => by omega
 | m + 1, h, hm => by
  by_cases he : k = m
  · subst he
    unfold actOf
    rw [hk]
    simp only [if_true, bne_self_eq_false, Bool.and_false, Bool.false_eq_true, if_false]
    rw [actOf_congr (val' := val) (L' := fun j => L j && j != k) k (fun j hj => by have : j ≠ k := by omega
                                                                                   simp [this]) (fun _ _ _ => rfl)]
  · have ih := actOf_last ok (a0 := a0) (val := val) hk m (by omega) (by omega)
    have hmk : (m != k) = true := by simp; omega
    unfold actOf
    rw [ih, hmk]
    simp only [Bool.and_true]
    split
    · have hkm : k < ops.size := by omega
      have hmm : m < ops.size := by omega
      have hok : ops[k]? = some ops[k] := Array.getElem?_eq_getElem hkm
      have hom : ops[m]? = some ops[m] := Array.getElem?_eq_getElem hmm
      rw [hok, hom]
      simp only [Option.bind_some]
      exact Act.put_comm _ _ _ fun d hd => ok.dst k m _ _ d hok hom he hd
    · rfl
theorem actOf_reads {ms : List Nat} (ok : RgOk md ops ms) {a0 : Act} {val : Nat → Value} {o : Oper} (hsel : ∀ cs b, o.op ≠ .select cs b) {m : Nat} (hm : m ≤ ops.size) : ∀ (t : Nat) (L L' : Nat → Bool),
    (∀ j < m, L j ≠ L' j → ∀ d, (ops[j]?).bind (·.dst) = some d → d ∉ o.looksAt ops) → (∀ j < m, t ≤ j → L j = L' j) → (∀ j, L j = true → L' j = true) →
    execOp (actOf ops a0 val L' m).eval o = execOp (actOf ops a0 val L m).eval o ∧ Region.wanted o (yielded ops (actOf ops a0 val L' m).tmps) = Region.wanted o (yielded ops (actOf ops a0 val L m).tmps)
 | 0, L, L', _, h2, _ => by rw [actOf_congr (L := L') (L' := L) (val' := val) m (fun j hj => (h2 j hj (by omega)).symm) (fun _ _ _ => rfl)]; exact ⟨rfl, rfl⟩
 | t + 1, L, L', h1, h2, h3 => by
  by_cases ht : t < m ∧ L t ≠ L' t
  · have hlt : L' t = true := by
     cases h : L' t with
     | true => rfl
     | false => exfalso; apply ht.2; rw [h]; cases hl : L t with
      | false => rfl
      | true => have := h3 t hl; rw [h] at this; cases this
    have hLt : L t = false := by cases hl : L t with
     | false => rfl
     | true => exact absurd (hl.trans hlt.symm) ht.2
    have hd := h1 t ht.1 ht.2
    rw [actOf_last ok (a0 := a0) (val := val) hlt m ht.1 hm, execOp_put o hsel _ _ _ hd, wanted_put o _ _ _ hd]
    refine actOf_reads ok hsel hm t L (fun j => L' j && j != t) (fun j hj hne => ?_) (fun j hj htj => ?_) (fun j hl => ?_)
    · by_cases hjt : j = t
      · subst hjt; exact hd
      · have hb : (j != t) = true := by simp [hjt]
        rw [hb, Bool.and_true] at hne
        exact h1 j hj hne
    · by_cases hjt : j = t
      · subst hjt; simp [hLt]
      · rw [h2 j hj (by omega)]; simp [hjt]
    · have : j ≠ t := by intro he; subst he; rw [hLt] at hl; cases hl
      simp [h3 j hl, this]
  · refine actOf_reads ok hsel hm t L L' h1 (fun j hj htj => ?_) h3
    by_cases hjt : j = t
    · subst hjt
      cases hl : L j with
      | true => exact (h3 j hl).symm
      | false => cases hl' : L' j with
       | false => rfl
       | true => exact absurd ⟨hj, by rw [hl, hl']; simp⟩ ht
    · exact h2 j hj (by omega)
theorem actOf_reads2 {ms : List Nat} (ok : RgOk md ops ms) {a0 : Act} {val : Nat → Value} {o : Oper} (hsel : ∀ cs b, o.op ≠ .select cs b) {m : Nat} (hm : m ≤ ops.size) (L L' : Nat → Bool)
    (h : ∀ j < m, L j ≠ L' j → ∀ d, (ops[j]?).bind (·.dst) = some d → d ∉ o.looksAt ops) :
    execOp (actOf ops a0 val L' m).eval o = execOp (actOf ops a0 val L m).eval o ∧ Region.wanted o (yielded ops (actOf ops a0 val L' m).tmps) = Region.wanted o (yielded ops (actOf ops a0 val L m).tmps) := by
 have k1 := actOf_reads ok hsel hm (a0 := a0) (val := val) m (fun j => L j && L' j) L (fun j hj hne => h j hj (by cases hl : L j <;> cases hl' : L' j <;> simp_all)) (fun j hj hm => by omega) (fun j hl => by simp at hl; exact hl.1)
 have k2 := actOf_reads ok hsel hm (a0 := a0) (val := val) m (fun j => L j && L' j) L' (fun j hj hne => h j hj (by cases hl : L j <;> cases hl' : L' j <;> simp_all)) (fun j hj hm => by omega) (fun j hl => by simp at hl; exact hl.2)
 exact ⟨k2.1.trans k1.1.symm, k2.2.trans k1.2.symm⟩
structure GV where
 v : Value
 s : Nat
 t : Nat
def GV.apart (a b : GV) : Prop := a.t ≤ b.s ∨ b.t ≤ a.s
def lookU : List (Nat × GV) → Nat → GV
 | [], _ => ⟨undef, 0, 0⟩
 | p :: us, j => if p.1 = j then p.2 else lookU us j
def Needs (ms : List Nat) (T : Nat → (Nat → GV) → World → Prop) (us : List (Nat × GV)) (i : Nat) (w : World) : Prop := ∀ p ∈ us, rgPre ms i p.1 = true → T p.1 (lookU us) w
theorem Needs.get {ms : List Nat} {T : Nat → (Nat → GV) → World → Prop} {us : List (Nat × GV)} {i : Nat} {w : World} (h : Needs ms T us i w) (k : Nat) (hk : us.any (fun p => p.1 == k) = true) (hp : rgPre ms i k = true) : T k (lookU us) w := by
 obtain ⟨p, h1, h2⟩ := List.any_eq_true.1 hk
 have e : p.1 = k := by simpa using h2
 subst e
 exact h p h1 hp
def ApartAll (us : List (Nat × GV)) : Prop := ∀ p ∈ us, ∀ q ∈ us, p.1 ≠ q.1 → p.2.apart q.2
def RG (P : Program) (ops : Array Oper) (Q : Exit → Act → World → Prop) (ms : List Nat) (mem : Nat → Bool) (V : Nat → Value → Prop) (T : Nat → (Nat → GV) → World → Prop) (E : Nat → (Nat → GV) → World → World → Prop) (B : World → Prop) : Nat → Nat → List (Nat × GV) → Act → Prop
 | 0, i, us, a => ops.size ≤ i ∧ ∀ w, B w → (∀ p ∈ us, T p.1 (lookU us) w) → ApartAll us → Q .normal a w
 | f + 1, i, us, a => ∃ o, ops[i]? = some o ∧
     ((mem i = false ∧ ∃ v, StillP P ops (fun w => B w ∧ Needs ms T us i w) o v a ∧ RG P ops Q ms mem V T E B f (i + 1) us (a.put o.dst v)) ∨
      (mem i = true ∧ MakesM P ops (fun w => B w ∧ Needs ms T us i w) o (fun w u w' => V i u ∧ T i (lookU ((i, ⟨u, w.heap.size, w'.heap.size⟩) :: us)) w' ∧ E i (lookU ((i, ⟨u, w.heap.size, w'.heap.size⟩) :: us)) w w') a ∧ ∀ u s t, V i u → RG P ops Q ms mem V T E B f (i + 1) ((i, ⟨u, s, t⟩) :: us) (a.put o.dst u)))
section
variable {ms : List Nat} {mem : Nat → Bool} {V : Nat → Value → Prop} {T : Nat → (Nat → GV) → World → Prop} {E : Nat → (Nat → GV) → World → World → Prop} {B : World → Prop}
def Node (P : Program) (ops : Array Oper) (ms : List Nat) (mem : Nat → Bool) (V : Nat → Value → Prop) (T : Nat → (Nat → GV) → World → Prop) (E : Nat → (Nat → GV) → World → World → Prop) (B : World → Prop) (a0 : Act) (u : Nat → GV) (val : Nat → Value) (j : Nat) : Prop :=
 ∃ o us, ops[j]? = some o ∧ (∀ p ∈ us, mem p.1 = true ∧ p.2 = u p.1 ∧ p.1 < j) ∧ (∀ k, k < j → mem k = true → lookU us k = u k) ∧
  ((mem j = false ∧ StillP P ops (fun w => B w ∧ Needs ms T us j w) o (val j) (actOf ops a0 val (fun _ => true) j)) ∨
   (mem j = true ∧ val j = (u j).v ∧ MakesM P ops (fun w => B w ∧ Needs ms T us j w) o (fun w x w' => V j x ∧ T j (lookU ((j, ⟨x, w.heap.size, w'.heap.size⟩) :: us)) w' ∧ E j (lookU ((j, ⟨x, w.heap.size, w'.heap.size⟩) :: us)) w w') (actOf ops a0 val (fun _ => true) j)))
theorem actOf_step {a0 : Act} {val : Nat → Value} {i : Nat} {o : Oper} (hi : ops[i]? = some o) : actOf ops a0 val (fun _ => true) (i + 1) = (actOf ops a0 val (fun _ => true) i).put o.dst (val i) := by
 conv => lhs; unfold actOf
 simp [hi]
theorem actOf_agree {a0 : Act} {val val' : Nat → Value} (m : Nat) (h : ∀ j < m, val j = val' j) : actOf ops a0 val (fun _ => true) m = actOf ops a0 val' (fun _ => true) m :=
 actOf_congr m (fun _ _ => rfl) fun j hj _ => h j hj
theorem rg_follow (ok : RgOk md ops ms) (hloc : ∀ k u v w, (∀ j, (j = k ∨ rgPre ms k j = true) → mem j = true → u j = v j) → T k u w → T k v w) {a0 : Act} {u : Nat → GV} (hu : ∀ k, mem k = true → V k (u k).v) : ∀ (f i : Nat) (us : List (Nat × GV)) (a : Act) (val0 : Nat → Value), i + f = ops.size → RG P ops Q ms mem V T E B f i us a → a = actOf ops a0 val0 (fun _ => true) i →
    (∀ p ∈ us, mem p.1 = true ∧ p.2 = u p.1 ∧ p.1 < i) → (∀ k, k < i → mem k = true → lookU us k = u k) → ∃ val : Nat → Value, (∀ j < i, val j = val0 j) ∧ (∀ j, i ≤ j → j < ops.size → Node P ops ms mem V T E B a0 u val j) ∧
     ∀ w, B w → (∀ k, mem k = true → k < ops.size → T k u w) → (∀ j k, mem j = true → mem k = true → j < ops.size → k < ops.size → j ≠ k → (u j).apart (u k)) → Q .normal (actOf ops a0 val (fun _ => true) ops.size) w
 | 0, i, us, a, val0, hi, h, ha, hus, hlk => by
  subst ha
  refine ⟨val0, fun _ _ => rfl, fun j h1 h2 => by omega, fun w hB hT hAP => ?_⟩
  have hAA : ApartAll us := fun p hp q hq hne => by
   obtain ⟨h1, h2, h3⟩ := hus p hp
   obtain ⟨k1, k2, k3⟩ := hus q hq
   rw [h2, k2]
   exact hAP p.1 q.1 h1 k1 (by omega) (by omega) hne
  have := h.2 w hB (fun p hp => by
   obtain ⟨h1, h2, h3⟩ := hus p hp
   refine hloc p.1 u (lookU us) w (fun j hj hm => ?_) (hT _ h1 (by omega))
   refine (hlk j ?_ hm).symm
   rcases hj with rfl | hj
   · exact h3
   · have hlt : p.1 < ops.size := by omega
     have := ok.lt p.1 j ops[p.1] (Array.getElem?_eq_getElem hlt) hj
     omega) hAA
  rwa [show i = ops.size by omega] at this
 | f + 1, i, us, a, val0, hi, h, ha, hus, hlk => by
  obtain ⟨o, ho, h⟩ := h
  rcases h with ⟨hm, v, hs, h⟩ | ⟨hm, hs, h⟩
  · have hval : ∀ j < i, (fun j => if j = i then v else val0 j) j = val0 j := fun j hj => by simp; omega
    have hpre := actOf_agree (ops := ops) (a0 := a0) i hval
    obtain ⟨val, h1, h2, h3⟩ := rg_follow ok hloc hu f (i + 1) us (a.put o.dst v) (fun j => if j = i then v else val0 j) (by omega) h (by rw [actOf_step ho, hpre, ← ha]; simp) (fun p hp => by obtain ⟨h1, h2, h3⟩ := hus p hp; exact ⟨h1, h2, by omega⟩) (fun k hk hmk => by
     by_cases he : k = i
     · subst he; rw [hm] at hmk; cases hmk
     · exact hlk k (by omega) hmk)
    have hagree : ∀ j < i, val j = val0 j := fun j hj => (h1 j (by omega)).trans (hval j hj)
    refine ⟨val, hagree, fun j hj hlt => ?_, h3⟩
    by_cases he : j = i
    · subst he
      refine ⟨o, us, ho, hus, hlk, .inl ⟨hm, ?_⟩⟩
      rw [h1 j (by omega), actOf_agree (ops := ops) (a0 := a0) j hagree, ← ha]
      simpa using hs
    · exact h2 j (by omega) hlt
  · have hval : ∀ j < i, (fun j => if j = i then (u i).v else val0 j) j = val0 j := fun j hj => by simp; omega
    have hpre := actOf_agree (ops := ops) (a0 := a0) i hval
    obtain ⟨val, h1, h2, h3⟩ := rg_follow ok hloc hu f (i + 1) ((i, u i) :: us) (a.put o.dst (u i).v) (fun j => if j = i then (u i).v else val0 j) (by omega) (h (u i).v (u i).s (u i).t (hu i hm)) (by rw [actOf_step ho, hpre, ← ha]; simp) (fun p hp => by
     rcases List.mem_cons.1 hp with rfl | hp
     · exact ⟨hm, rfl, by simp only; omega⟩
     · obtain ⟨h1, h2, h3⟩ := hus p hp
       exact ⟨h1, h2, by omega⟩) (fun k hk hmk => by
     unfold lookU
     by_cases he : i = k
     · subst he; simp
     · simp only [he, if_false]
       exact hlk k (by omega) hmk)
    have hagree : ∀ j < i, val j = val0 j := fun j hj => (h1 j (by omega)).trans (hval j hj)
    refine ⟨val, hagree, fun j hj hlt => ?_, h3⟩
    by_cases he : j = i
    · subst he
      refine ⟨o, us, ho, hus, hlk, .inr ⟨hm, by rw [h1 j (by omega)]; simp, ?_⟩⟩
      rw [actOf_agree (ops := ops) (a0 := a0) j hagree, ← ha]
      exact hs
    · exact h2 j (by omega) hlt
theorem rg_closed (ok : RgOk md ops ms) {listed : Array Bool} (hc : Closed md ops listed) : ∀ (n i j : Nat) (o : Oper), i < n → ops[i]? = some o → j < ops.size → (∀ e ∈ o.after, Region.binds md e = true → listed.getD e.on false = true) → rgPre ms i j = true → listed.getD j false = true
 | 0, _, _, _, h, _, _, _, _ => by omega
 | n + 1, i, j, o, hin, hi, hj, hl, hp => by
  obtain ⟨h1, e, he, hb, hor⟩ := ok.pre i j o ops[j] hi (Array.getElem?_eq_getElem hj) hp
  have hle := hl e he hb
  rcases hor with rfl | hor
  · exact hle
  · have hlt := (ok.edge i o hi e he hb).1
    have hes : e.on < ops.size := Nat.lt_trans hlt (Array.getElem?_eq_some_iff.1 hi).1
    exact rg_closed ok hc n e.on j ops[e.on] (by omega) (Array.getElem?_eq_getElem hes) hj (fun e' he' hb' => hc e.on _ (Array.getElem?_eq_getElem hes) hle e' he' hb') hor
theorem rg_any (ok : RgOk md ops ms) (hloc : ∀ k u v w, (∀ j, (j = k ∨ rgPre ms k j = true) → mem j = true → u j = v j) → T k u w → T k v w) (hBE : ∀ i u w w', B w → E i u w w' → B w' ∧ w.heap.size ≤ w'.heap.size) (hEloc : ∀ i u v w w', (∀ j, (j = i ∨ rgPre ms i j = true) → mem j = true → u j = v j) → E i u w w' → E i v w w')
    (hTE : ∀ i k u w w', i ≠ k → rgPre ms k i = false → B w → mem k = true → (∀ j j', (j = i ∨ rgPre ms i j = true) → (j' = k ∨ rgPre ms k j' = true) → mem j = true → mem j' = true → j ≠ j' → (u j).apart (u j')) → T k u w → E i u w w' → T k u w') {a0 : Act} (h0 : RG P ops Q ms mem V T E B ops.size 0 [] a0) :
    ∀ (f : Nat) (listed : Array Bool) (a : Act) (w : World) (u : Nat → GV) (val : Nat → Value), listed.size = ops.size → ((List.range ops.size).filter fun j => !listed.getD j true).length ≤ f → Closed md ops listed →
     (∀ k, mem k = true → V k (u k).v) → (∀ j k, mem j = true → mem k = true → listed.getD j false = true → listed.getD k false = true → j ≠ k → (u j).apart (u k)) → (∀ k, mem k = true → listed.getD k false = true → (u k).t ≤ w.heap.size) → (∀ j, j < ops.size → Node P ops ms mem V T E B a0 u val j) → (∀ w, B w → (∀ k, mem k = true → k < ops.size → T k u w) → (∀ j k, mem j = true → mem k = true → j < ops.size → k < ops.size → j ≠ k → (u j).apart (u k)) → Q .normal (actOf ops a0 val (fun _ => true) ops.size) w) →
     B w → (∀ k, mem k = true → listed.getD k false = true → T k u w) → a = actOf ops a0 val (fun j => listed.getD j false) ops.size → wpAny P md ops Q f listed a w := by
 intro f
 -- where nothing is ready all is listed
 have full : ∀ (listed : Array Bool), listed.size = ops.size → Region.ready md ops listed = [] → ∀ j, j < ops.size → listed.getD j false = true := fun listed hsz hr j => by
  induction j using Nat.strongRecOn with
  | _ j ih =>
   intro hj
   cases hl : listed.getD j false with
   | true => rfl
   | false =>
    exfalso
    have hmem : j ∈ Region.ready md ops listed := mem_ready.2 ⟨by rw [← hl]; simp [hsz, hj], ops[j], Array.getElem?_eq_getElem hj, fun e he hb => by
     have := (ok.edge j _ (Array.getElem?_eq_getElem hj) e he hb).1
     exact ih e.on this (by omega)⟩
    rw [hr] at hmem
    cases hmem
 have done : ∀ (listed : Array Bool) (a : Act) (w : World) (u : Nat → GV) (val : Nat → Value), (∀ j, j < ops.size → listed.getD j false = true) → (∀ w, B w → (∀ k, mem k = true → k < ops.size → T k u w) → (∀ j k, mem j = true → mem k = true → j < ops.size → k < ops.size → j ≠ k → (u j).apart (u k)) → Q .normal (actOf ops a0 val (fun _ => true) ops.size) w) →
     (∀ j k, mem j = true → mem k = true → listed.getD j false = true → listed.getD k false = true → j ≠ k → (u j).apart (u k)) → B w → (∀ k, mem k = true → listed.getD k false = true → T k u w) → a = actOf ops a0 val (fun j => listed.getD j false) ops.size → Q .normal a w := fun listed a w u val hall hQ hap hB hT ha => by
  rw [ha, actOf_congr (val' := val) (L' := fun _ => true) ops.size (fun j hj => hall j hj) (fun _ _ _ => rfl)]
  exact hQ w hB (fun k hk hlt => hT k hk (hall k hlt)) fun j k hj hk hlj hlk hne => hap j k hj hk (hall j hlj) (hall k hlk) hne
 induction f with
 | zero =>
  intro listed a w u val hsz hf hcl hV hap hts hN hQ hB hT ha
  have hall : ∀ j, j < ops.size → listed.getD j false = true := fun j hj => by
   have h1 : (List.range ops.size).filter (fun j => !listed.getD j true) = [] := List.eq_nil_of_length_eq_zero (by omega)
   have h2 := List.filter_eq_nil_iff.1 h1 j (List.mem_range.2 hj)
   have h3 : listed.getD j true = listed.getD j false := by simp [hsz, hj]
   rw [h3] at h2
   simpa using h2
  refine ⟨?_, done listed a w u val hall hQ hap hB hT ha⟩
  cases hr : Region.ready md ops listed with
  | nil => rfl
  | cons i l =>
   exfalso
   have hi : i ∈ Region.ready md ops listed := by rw [hr]; simp
   obtain ⟨h1, o, ho, _⟩ := mem_ready.1 hi
   have hlt := (Array.getElem?_eq_some_iff.1 ho).1
   have := hall i hlt
   simp [hsz, hlt] at h1 this
   rw [h1] at this; cases this
 | succ f ih =>
  intro listed a w u val hsz hf hcl hV hap hts hN hQ hB hT ha
  refine ⟨fun hr => done listed a w u val (full listed hsz hr) hQ hap hB hT ha, fun i hi => ?_⟩
  obtain ⟨hun, o, ho, hall⟩ := mem_ready.1 hi
  have hlt := (Array.getElem?_eq_some_iff.1 ho).1
  have hunl : listed.getD i false = false := by rw [← hun]; simp [hsz, hlt]
  have hcount : ((List.range ops.size).filter fun j => !(listed.setIfInBounds i true).getD j true).length ≤ f := by
   have hlen : ((List.range ops.size).filter fun j => !(listed.setIfInBounds i true).getD j true).length < ((List.range ops.size).filter fun j => !listed.getD j true).length := by
    have hsub : (List.range ops.size).filter (fun j => !(listed.setIfInBounds i true).getD j true) = ((List.range ops.size).filter fun j => !listed.getD j true).filter (fun j => j != i) := by
     rw [List.filter_filter]
     apply List.filter_congr
     intro j hj
     by_cases hji : j = i
     · subst hji; simp [hsz, hlt]
     · rw [getD_set_ne true (Ne.symm hji)]; simp [hji]
    rw [hsub]
    have hmem : i ∈ (List.range ops.size).filter fun j => !listed.getD j true := List.mem_filter.2 ⟨List.mem_range.2 hlt, by rw [hun]; rfl⟩
    have := List.length_filter_lt_length_iff_exists (p := fun j => j != i) (l := (List.range ops.size).filter fun j => !listed.getD j true)
    exact this.2 ⟨i, hmem, by simp⟩
   omega
  have hsz' : (listed.setIfInBounds i true).size = ops.size := by simp [hsz]
  have hcl' := hcl.set ho hall
  have pre_listed : ∀ j, j < ops.size → rgPre ms i j = true → listed.getD j false = true := fun j hj hp => rg_closed ok hcl (i + 1) i j o (by omega) ho hj hall hp
  have hsel : ∀ cs b, o.op ≠ .select cs b := fun cs b => ok.sel i o cs b ho
  -- what the operation reads is what it reads in the text's order
  have reads : execOp a.eval o = execOp (actOf ops a0 val (fun _ => true) i).eval o ∧ Region.wanted o (yielded ops a.tmps) = Region.wanted o (yielded ops (actOf ops a0 val (fun _ => true) i).tmps) := by
   have h1 : actOf ops a0 val (fun _ => true) i = actOf ops a0 val (fun j => decide (j < i)) ops.size := by
    rw [actOf_stop i ops.size (by omega) fun j _ hij => by simp; omega]
    exact actOf_congr i (fun j hj => by simp [hj]) fun _ _ _ => rfl
   rw [h1, ha]
   refine actOf_reads2 ok hsel (Nat.le_refl _) _ _ fun j hj hne d hd => ?_
   have hoj : ops[j]? = some ops[j] := Array.getElem?_eq_getElem hj
   rw [hoj] at hd
   have hji : i ≠ j := by
    rintro rfl
    apply hne
    simp [hunl]
   refine ok.looks i j o ops[j] ho hoj hji ?_ ?_ d hd
   · cases hp : rgPre ms i j with
     | false => rfl
     | true =>
      exfalso
      apply hne
      have h2 := pre_listed j hj hp
      have h3 := (ok.pre i j o ops[j] ho hoj hp).1
      simp only [h2, h3, decide_true]
   · cases hp : rgPre ms j i with
     | false => rfl
     | true =>
      exfalso
      apply hne
      have h3 := (ok.pre j i ops[j] o hoj ho hp).1
      have h2 : listed.getD j false = false := by
       cases hl : listed.getD j false with
       | false => rfl
       | true =>
        have := rg_closed ok hcl (j + 1) j i ops[j] (by omega) hoj hlt (fun e he hb => hcl j _ hoj hl e he hb) hp
        rw [hunl] at this; cases this
      simp only [h2]
      exact decide_eq_false (by omega)
  have extend : ∀ (val' : Nat → Value), (∀ k, k < ops.size → listed.getD k false = true → val k = val' k) → a.put o.dst (val' i) = actOf ops a0 val' (fun j => (listed.setIfInBounds i true).getD j false) ops.size := fun val' hv => by
   rw [actOf_last ok (k := i) (by simp [hsz, hlt]) ops.size hlt (Nat.le_refl _), ha, ho]
   simp only [Option.bind_some]
   congr 1
   refine actOf_congr ops.size (fun j hj => ?_) fun j hj hl => hv j hj hl
   by_cases hji : j = i
   · subst hji; simp [hunl]
   · rw [getD_set_ne false (Ne.symm hji)]; simp [hji]
  obtain ⟨o', us, ho', hus, hlk, hnode⟩ := hN i hlt
  rw [ho] at ho'
  injection ho' with ho'
  subst ho'
  have needs : ∀ (k : Nat) (us' : List (Nat × GV)) (u' : Nat → GV) (w' : World), k < ops.size → (∀ p ∈ us', mem p.1 = true ∧ p.2 = u' p.1 ∧ p.1 < k) → (∀ j, j < k → mem j = true → lookU us' j = u' j) → (∀ j, mem j = true → rgPre ms k j = true → j < ops.size → T j u' w') → Needs ms T us' k w' := fun k us' u' w' hk h1 hl h2 p hp hpre => by
   obtain ⟨h4, h5, h6⟩ := h1 p hp
   have hp6 : p.1 < ops.size := by omega
   refine hloc p.1 u' (lookU us') w' (fun j hj hm => ?_) (h2 p.1 h4 hpre hp6)
   refine (hl j ?_ hm).symm
   rcases hj with rfl | hj
   · exact h6
   · have := ok.lt p.1 j ops[p.1] (Array.getElem?_eq_getElem hp6) hj
     omega
  have hneed : B w ∧ Needs ms T us i w := ⟨hB, needs i us u w hlt hus hlk fun j hm hp hj => hT j hm (pre_listed j hj hp)⟩
  rcases hnode with ⟨hm, hs⟩ | ⟨hm, hvi, hs⟩
  · have hs' : StillP P ops (fun w => B w ∧ Needs ms T us i w) o (val i) a := by unfold StillP at *; rw [reads.1, reads.2]; exact hs
    have old : ∀ k, mem k = true → (listed.setIfInBounds i true).getD k false = true → listed.getD k false = true := fun k hk hl => by
     by_cases hki : k = i
     · subst hki; rw [hm] at hk; cases hk
     · rwa [getD_set_ne false (Ne.symm hki)] at hl
    refine hs'.op ho hneed ?_
    refine ih (listed.setIfInBounds i true) (a.put o.dst (val i)) w u val hsz' hcount hcl' hV (fun j k hj hk hlj hlk => hap j k hj hk (old j hj hlj) (old k hk hlk)) (fun k hk hl => hts k hk (old k hk hl)) hN hQ hB (fun k hk hl => ?_) (extend val fun _ _ _ => rfl)
    by_cases hki : k = i
    · subst hki; rw [hm] at hk; cases hk
    · rw [getD_set_ne false (Ne.symm hki)] at hl
      exact hT k hk hl
  · have hs' : MakesM P ops (fun w => B w ∧ Needs ms T us i w) o (fun w x w' => V i x ∧ T i (lookU ((i, ⟨x, w.heap.size, w'.heap.size⟩) :: us)) w' ∧ E i (lookU ((i, ⟨x, w.heap.size, w'.heap.size⟩) :: us)) w w') a := by unfold MakesM at *; rw [reads.1, reads.2]; exact hs
    refine hs'.op ho hneed fun x w' hx => ?_
    obtain ⟨hVx, hTx, hE⟩ := hx
    have hui : (fun k => if k = i then (⟨x, w.heap.size, w'.heap.size⟩ : GV) else u k) i = ⟨x, w.heap.size, w'.heap.size⟩ := by simp
    have huk : ∀ k, k ≠ i → (fun k => if k = i then (⟨x, w.heap.size, w'.heap.size⟩ : GV) else u k) k = u k := fun k hk => by simp [hk]
    generalize (fun k => if k = i then (⟨x, w.heap.size, w'.heap.size⟩ : GV) else u k) = u' at *
    have hV' : ∀ k, mem k = true → V k (u' k).v := fun k hk => by
     by_cases hki : k = i
     · subst hki; rw [hui]; exact hVx
     · rw [huk k hki]; exact hV k hk
    obtain ⟨val', _, hN', hQ'⟩ := rg_follow ok hloc hV' ops.size 0 [] a0 (fun _ => undef) (by omega) h0 rfl (by simp) (fun k hk => by omega)
    have hB' := (hBE i _ w w' hB hE).1
    have hsz2 := (hBE i _ w w' hB hE).2
    have hE' : E i u' w w' := hEloc i _ u' w w' (fun j hj hm => by
     unfold lookU
     by_cases hji : i = j
     · subst hji; simp [hui]
     · simp only [hji, if_false]
       rw [huk j (Ne.symm hji)]
       rcases hj with rfl | hj
       · exact absurd rfl hji
       · exact hlk j (ok.lt i j o ho hj) hm) hE
    have preof : ∀ j, mem j = true → listed.getD j false = true → j ≠ i := fun j _ hl h => by subst h; rw [hunl] at hl; cases hl
    have hap' : ∀ j k, mem j = true → mem k = true → (listed.setIfInBounds i true).getD j false = true → (listed.setIfInBounds i true).getD k false = true → j ≠ k → (u' j).apart (u' k) := fun j k hj hk hlj hlk hne => by
     by_cases hji : j = i
     · have hki : k ≠ i := fun h => hne (hji.trans h.symm)
       rw [getD_set_ne false (Ne.symm hki)] at hlk
       rw [hji, hui, huk k hki]
       exact .inr (hts k hk hlk)
     · rw [getD_set_ne false (Ne.symm hji)] at hlj
       by_cases hki : k = i
       · rw [hki, hui, huk j hji]
         exact .inl (hts j hj hlj)
       · rw [getD_set_ne false (Ne.symm hki)] at hlk
         rw [huk j hji, huk k hki]
         exact hap j k hj hk hlj hlk hne
    have hts' : ∀ k, mem k = true → (listed.setIfInBounds i true).getD k false = true → (u' k).t ≤ w'.heap.size := fun k hk hl => by
     by_cases hki : k = i
     · rw [hki, hui]; exact Nat.le_refl _
     · rw [getD_set_ne false (Ne.symm hki)] at hl
       rw [huk k hki]
       exact Nat.le_trans (hts k hk hl) hsz2
    have hTo : ∀ k, mem k = true → listed.getD k false = true → T k u' w' := fun k hk hl => by
     have hki : k ≠ i := preof k hk hl
     have hks : k < ops.size := by
      rcases Nat.lt_or_ge k ops.size with h | h
      · exact h
      · simp [Array.getElem?_eq_none (show listed.size ≤ k by omega)] at hl
     have hk' : T k u' w := hloc k u u' w (fun j hj hm => (huk j (by
      rintro rfl
      rcases hj with rfl | hj
      · exact hki rfl
      · have := rg_closed ok hcl (k + 1) k j ops[k] (by omega) (Array.getElem?_eq_getElem hks) hlt (fun e he hb => hcl k _ (Array.getElem?_eq_getElem hks) hl e he hb) hj
        rw [hunl] at this; cases this)).symm) (hT k hk hl)
     have hpk : rgPre ms k i = false := by
      cases hp : rgPre ms k i with
      | false => rfl
      | true =>
       have := rg_closed ok hcl (k + 1) k i ops[k] (by omega) (Array.getElem?_eq_getElem hks) hlt (fun e he hb => hcl k _ (Array.getElem?_eq_getElem hks) hl e he hb) hp
       rw [hunl] at this; cases this
     refine hTE i k u' w w' (Ne.symm hki) hpk hB hk (fun j j' hj hj' hm hm' hjk => hap' j j' hm hm' ?_ ?_ hjk) hk' hE'
     · rcases hj with rfl | hj
       · simp [hsz, hlt]
       · have hjs : j < ops.size := by have := ok.lt i j o ho hj; omega
         exact getD_set_true (pre_listed j hjs hj)
     · rcases hj' with rfl | hj'
       · exact getD_set_true hl
       · have hlk := ok.lt k j' ops[k] (Array.getElem?_eq_getElem hks) hj'
         have hjs : j' < ops.size := by omega
         have h3 := rg_closed ok hcl (k + 1) k j' ops[k] (by omega) (Array.getElem?_eq_getElem hks) hjs (fun e he hb => hcl k _ (Array.getElem?_eq_getElem hks) hl e he hb) hj'
         exact getD_set_true h3
    have hTi : T i u' w' := by
     refine hloc i _ u' w' (fun j hj hm => ?_) hTx
     unfold lookU
     by_cases hji : i = j
     · subst hji; simp [hui]
     · simp only [hji, if_false]
       rw [huk j (Ne.symm hji)]
       rcases hj with rfl | hj
       · exact absurd rfl hji
       · exact hlk j (ok.lt i j o ho hj) hm
    have hT' : ∀ k, mem k = true → (listed.setIfInBounds i true).getD k false = true → T k u' w' := fun k hk hl => by
     by_cases hki : k = i
     · subst hki; exact hTi
     · rw [getD_set_ne false (Ne.symm hki)] at hl
       exact hTo k hk hl
    have agree : ∀ k, k < ops.size → listed.getD k false = true → val k = val' k := fun k => by
     induction k using Nat.strongRecOn with
     | _ k ihk =>
      intro hk hl
      have hki : k ≠ i := by rintro rfl; rw [hunl] at hl; cases hl
      obtain ⟨ok1, us1, ho1, hus1, hlk1, n1⟩ := hN k hk
      obtain ⟨ok2, us2, ho2, hus2, hlk2, n2⟩ := hN' k (Nat.zero_le _) hk
      rw [ho1] at ho2
      injection ho2 with ho2
      subst ho2
      have hselk : ∀ cs b, ok1.op ≠ .select cs b := fun cs b => ok.sel k ok1 cs b ho1
      have pk : ∀ j, j < ops.size → rgPre ms k j = true → listed.getD j false = true := fun j hj hp => rg_closed ok hcl (k + 1) k j ok1 (by omega) ho1 hj (fun e he hb => hcl k ok1 ho1 hl e he hb) hp
      rcases n1 with ⟨m1, s1⟩ | ⟨m1, v1, _⟩
      · rcases n2 with ⟨m2, s2⟩ | ⟨m2, _, _⟩
        · have cut : ∀ v : Nat → Value, execOp (actOf ops a0 v (fun _ => true) k).eval ok1 = execOp (actOf ops a0 v (fun j => rgPre ms k j) k).eval ok1 ∧ Region.wanted ok1 (yielded ops (actOf ops a0 v (fun _ => true) k).tmps) = Region.wanted ok1 (yielded ops (actOf ops a0 v (fun j => rgPre ms k j) k).tmps) := fun v =>
           actOf_reads2 ok hselk (by omega) _ _ fun j hj hne d hd => by
            have hoj : ops[j]? = some ops[j] := Array.getElem?_eq_getElem (by omega)
            rw [hoj] at hd
            refine ok.looks k j ok1 ops[j] ho1 hoj (by omega) ?_ ?_ d hd
            · cases hp : rgPre ms k j with
              | false => rfl
              | true => exact absurd (by simp only [hp]) hne
            · cases hp : rgPre ms j k with
              | false => rfl
              | true => have := (ok.pre j k ops[j] ok1 hoj ho1 hp).1; omega
          have same : actOf ops a0 val (fun j => rgPre ms k j) k = actOf ops a0 val' (fun j => rgPre ms k j) k :=
           actOf_congr k (fun _ _ => rfl) fun j hj hp => ihk j hj (by omega) (pk j (by omega) hp)
          have c1 := cut val
          have c2 := cut val'
          rw [same] at c1
          refine (StillP.uniq s1 s2 (c2.1.trans c1.1.symm) (c2.2.trans c1.2.symm) (w := w') ⟨hB', needs k us1 u w' hk hus1 hlk1 fun j hm hp hj => hloc j u' u w' (fun q hq hqm => huk q (by
           rintro rfl
           rcases hq with rfl | hq
           · exact preof _ hm (pk _ hj hp) rfl
           · have := rg_closed ok hcl (j + 1) j q ops[j] (by omega) (Array.getElem?_eq_getElem hj) hlt (fun e he hb => hcl j _ (Array.getElem?_eq_getElem hj) (pk j hj hp) e he hb) hq
             rw [hunl] at this; cases this)) (hTo j hm (pk j hj hp))⟩ ⟨hB', needs k us2 u' w' hk hus2 hlk2 fun j hm hp hj => hTo j hm (pk j hj hp)⟩).symm
        · rw [m1] at m2; cases m2
      · rcases n2 with ⟨m2, _⟩ | ⟨m2, v2, _⟩
        · rw [m1] at m2; cases m2
        · rw [v1, v2, huk k hki]
    have hxi : x = val' i := by
     obtain ⟨_, _, _, _, _, n2⟩ := hN' i (Nat.zero_le _) hlt
     rcases n2 with ⟨m2, _⟩ | ⟨_, v2, _⟩
     · rw [hm] at m2; cases m2
     · rw [v2, hui]
    rw [hxi]
    exact ih (listed.setIfInBounds i true) (a.put o.dst (val' i)) w' u' val' hsz' hcount hcl' hV' hap' hts' (fun j hj => hN' j (Nat.zero_le _) hj) hQ' hB' hT' (extend val' agree)
theorem region_rg (ms : List Nat) (mem : Nat → Bool) (V : Nat → Value → Prop) (T : Nat → (Nat → GV) → World → Prop) (E : Nat → (Nat → GV) → World → World → Prop) (B : World → Prop) {id : Nat} {a : Act} {w : World} (hm : P.follows .mixedOrders = true)
    (hok : rgOk .any ops ms = true) (hV : ∀ k, mem k = true → ∃ u, V k u) (hloc : ∀ k u v w, (∀ j, (j = k ∨ rgPre ms k j = true) → mem j = true → u j = v j) → T k u w → T k v w) (hBE : ∀ i u w w', B w → E i u w w' → B w' ∧ w.heap.size ≤ w'.heap.size) (hEloc : ∀ i u v w w', (∀ j, (j = i ∨ rgPre ms i j = true) → mem j = true → u j = v j) → E i u w w' → E i v w w')
    (hTE : ∀ i k u w w', i ≠ k → rgPre ms k i = false → B w → mem k = true → (∀ j j', (j = i ∨ rgPre ms i j = true) → (j' = k ∨ rgPre ms k j' = true) → mem j = true → mem j' = true → j ≠ j' → (u j).apart (u j')) → T k u w → E i u w w' → T k u w') (hB : B w.drew)
    (h : RG P ops Q ms mem V T E B ops.size 0 [] a) : (Code.region id ops true).wp P Q a w := by
 have ok := rgOk_spec hok
 have hu : ∀ k, ∃ u, mem k = true → V k u := fun k => by
  cases hk : mem k with
  | false => exact ⟨undef, fun h => by cases h⟩
  | true => obtain ⟨u, h⟩ := hV k hk; exact ⟨u, fun _ => h⟩
 have hV' : ∀ k, mem k = true → V k ((fun k => (⟨Classical.choose (hu k), 0, 0⟩ : GV)) k).v := fun k => Classical.choose_spec (hu k)
 obtain ⟨val, _, hN, hQ⟩ := rg_follow ok hloc hV' ops.size 0 [] a (fun _ => undef) (by omega) h rfl (by simp) (fun k hk => by omega)
 refine wp_region_any hm (rg_any ok hloc hBE hEloc hTE h ops.size (Array.replicate ops.size false) a w.drew (fun k => ⟨Classical.choose (hu k), 0, 0⟩) val (by simp) ?_ ?_ hV' (fun j k _ _ hl => ?_) (fun k _ hl => ?_) (fun j hj => hN j (Nat.zero_le _) hj) hQ hB ?_ ?_)
 · exact Nat.le_trans (List.length_filter_le _ _) (by simp)
 · intro j o ho hl
   have hlt := (Array.getElem?_eq_some_iff.1 ho).1
   simp [hlt] at hl
 · exfalso
   by_cases hk : j < ops.size <;> simp [hk] at hl
 · exfalso
   by_cases hk : k < ops.size <;> simp [hk] at hl
 · intro k _ hl
   exfalso
   by_cases hk : k < ops.size <;> simp [hk] at hl
 · rw [actOf_none ops.size fun j hj => by simp [hj]]
theorem rg_pure {i f : Nat} {us : List (Nat × GV)} {a : Act} {o : Oper} {v : Value} (hi : ops[i]? = some o) (hm : mem i = false) (hw : Region.wanted o (yielded ops a.tmps) = true)
    (hy : ∀ w, B w → Needs ms T us i w → GivesP v w ((execOp a.eval o).run P w)) (h : RG P ops Q ms mem V T E B f (i + 1) us (a.put o.dst v)) : RG P ops Q ms mem V T E B (f + 1) i us a :=
 ⟨o, hi, .inl ⟨hm, v, .inl ⟨hw, fun w hw => hy w hw.1 hw.2⟩, h⟩⟩
theorem rg_no {i f : Nat} {us : List (Nat × GV)} {a : Act} {o : Oper} (hi : ops[i]? = some o) (hm : mem i = false) (hw : Region.wanted o (yielded ops a.tmps) = false)
    (h : RG P ops Q ms mem V T E B f (i + 1) us (a.put o.dst undef)) : RG P ops Q ms mem V T E B (f + 1) i us a :=
 ⟨o, hi, .inl ⟨hm, undef, .inr ⟨hw, rfl⟩, h⟩⟩
theorem rg_mem {i f : Nat} {us : List (Nat × GV)} {a : Act} {o : Oper} (Vi : Value → Prop) (Ti : (Nat → GV) → World → Prop) (Ei : (Nat → GV) → World → World → Prop) (hVi : V i = Vi) (hTi : T i = Ti) (hEi : E i = Ei) (hi : ops[i]? = some o) (hm : mem i = true) (hw : Region.wanted o (yielded ops a.tmps) = true)
    (hy : ∀ w, B w → Needs ms T us i w → ∀ R : Value → World → Prop, (∀ u w', Vi u → Ti (lookU ((i, ⟨u, w.heap.size, w'.heap.size⟩) :: us)) w' → Ei (lookU ((i, ⟨u, w.heap.size, w'.heap.size⟩) :: us)) w w' → R u w') → GivesM P R ((execOp a.eval o).run P w)) (h : ∀ u s t, Vi u → RG P ops Q ms mem V T E B f (i + 1) ((i, ⟨u, s, t⟩) :: us) (a.put o.dst u)) : RG P ops Q ms mem V T E B (f + 1) i us a := by
 subst hVi hTi hEi
 exact ⟨o, hi, .inr ⟨hm, ⟨hw, fun w hw => hy w hw.1 hw.2 _ fun u w' h1 h2 h3 => ⟨h1, h2, h3⟩⟩, h⟩⟩
theorem rg_done {i f : Nat} {us : List (Nat × GV)} {a : Act} (hf : f = 0) (hi : ops.size ≤ i) (h : ∀ w, B w → (∀ p ∈ us, T p.1 (lookU us) w) → Q .normal a w) : RG P ops Q ms mem V T E B f i us a := by subst hf; exact ⟨hi, fun w hB hT _ => h w hB hT⟩
theorem rg_doneA {i f : Nat} {us : List (Nat × GV)} {a : Act} (hf : f = 0) (hi : ops.size ≤ i) (h : ∀ w, B w → (∀ p ∈ us, T p.1 (lookU us) w) → ApartAll us → Q .normal a w) : RG P ops Q ms mem V T E B f i us a := by subst hf; exact ⟨hi, h⟩
theorem givesP_mk {u v : Value} {w : World} (h : u = v) : GivesP v w (.ok (.value u) w) := ⟨h, rfl⟩
theorem givesM_val {R : Value → World → Prop} {u : Value} {w : World} (h : R u w) : GivesM P R (.ok (.value u) w) := ⟨h⟩
theorem givesM_call {R : Value → World → Prop} {fid : FuncId} {args : Array Value} {w : World} (h : Calls P fid args w fun e w'' => ∃ v, e = .returned v ∧ R v w'') : GivesM P R (.ok (.enter fid args) w) := ⟨h⟩
abbrev Fam := List (Nat × (Value → Prop) × ((Nat → GV) → World → Prop))
def famM : Fam → Nat → Bool
 | [], _ => false
 | p :: l, i => p.1 == i || famM l i
def famV : Fam → Nat → Value → Prop
 | [], _ => fun _ => True
 | p :: l, i => if p.1 = i then p.2.1 else famV l i
def famT : Fam → Nat → (Nat → GV) → World → Prop
 | [], _ => fun _ _ => True
 | p :: l, i => if p.1 = i then p.2.2 else famT l i
theorem famV_some {l : Fam} (h : ∀ p ∈ l, ∃ u, p.2.1 u) (k : Nat) : ∃ u, famV l k u := by
 induction l with
 | nil => exact ⟨undef, trivial⟩
 | cons p l ih =>
  unfold famV
  split
  · exact h p (by simp)
  · exact ih fun q hq => h q (by simp [hq])
theorem famT_at {l : Fam} (k : Nat) (C : ((Nat → GV) → World → Prop) → Prop) (h0 : C fun _ _ => True) (h : ∀ p ∈ l, p.1 = k → C p.2.2) : C (famT l k) := by
 induction l with
 | nil => exact h0
 | cons p l ih =>
  have e : famT (p :: l) k = if p.1 = k then p.2.2 else famT l k := rfl
  rw [e]
  split
  · rename_i he; exact h p (by simp) he
  · exact ih fun q hq => h q (by simp [hq])
theorem famT_ext {l : Fam} {R : World → World → Prop} (h : ∀ p ∈ l, ∀ u w w', R w w' → p.2.2 u w → p.2.2 u w') (k : Nat) (u : Nat → GV) (w w' : World) (hk : famT l k u w) (hx : R w w') : famT l k u w' :=
 famT_at k (fun t => t u w → t u w') (fun _ => trivial) (fun p hp _ => h p hp u w w' hx) hk
theorem famT_loc {ms : List Nat} {M : Nat → Bool} {l : Fam} (h : ∀ p ∈ l, ∀ u v w, (∀ j, (j = p.1 ∨ rgPre ms p.1 j = true) → M j = true → u j = v j) → p.2.2 u w → p.2.2 v w) (k : Nat) (u v : Nat → GV) (w : World)
    (hj : ∀ j, (j = k ∨ rgPre ms k j = true) → M j = true → u j = v j) (hk : famT l k u w) : famT l k v w :=
 famT_at k (fun t => t u w → t v w) (fun _ => trivial) (fun p hp he => h p hp u v w (by rw [he]; exact hj)) hk
theorem region_rgx (l : Fam) (w0 : World) {id : Nat} {a : Act} {w : World} (hm : P.follows .mixedOrders = true) (hok : rgOk .any ops (rgMasks .any ops) = true)
    (hl : ∀ p ∈ l, (∃ u, p.2.1 u) ∧ (∀ u v w, (∀ j, (j = p.1 ∨ rgPre (rgMasks .any ops) p.1 j = true) → famM l j = true → u j = v j) → p.2.2 u w → p.2.2 v w) ∧ ∀ u w w', Ext w w' → p.2.2 u w → p.2.2 u w') (hB : Ext w0 w)
    (h : RG P ops Q (rgMasks .any ops) (famM l) (famV l) (famT l) (fun _ _ => Ext) (Ext w0) ops.size 0 [] a) : (Code.region id ops true).wp P Q a w :=
 region_rg (rgMasks .any ops) (famM l) (famV l) (famT l) (fun _ _ => Ext) (Ext w0) hm hok (fun k _ => famV_some (fun p hp => (hl p hp).1) k) (fun k u v w => famT_loc (fun p hp => (hl p hp).2.1) k u v w) (fun _ _ _ _ h k => ⟨h.trans k, k.size⟩) (fun _ _ _ _ _ _ h => h)
  (fun _ k u w w' _ _ _ _ _ hk hx => famT_ext (fun p hp => (hl p hp).2.2) k u w w' hk hx) hB.drew h
structure ChgIn (w0 : World) (n : Nat) (gs : List GV) (w w' : World) : Prop where
 old : Ext w0 w
 new : Ext w0 w'
 size : w.heap.size ≤ w'.heap.size
 same : ∀ b, b < w.heap.size → (∀ g ∈ gs, b < g.s ∨ g.t ≤ b) → w'.heap[b]? = w.heap[b]?
 part : ∀ (b : Nat) (cs : Array Value) (ty : TypeId), w.heap[b]? = some (.cells cs ty (0, 0)) → ∃ cs' : Array Value, w'.heap[b]? = some (.cells cs' ty (0, 0)) ∧ cs'.size = cs.size ∧ cs'.toList.take n = cs.toList.take n
end
end
theorem givesM_append {P : Program} {R : Value → World → Prop} {ρ : Operand → Value} {o : Oper} {w : World} (s x : Operand) (t : TypeId) (ho : o.op = .call { callee := .builtin .append, args := #[s, x], argTypes := #[t, t] }) (v xv : Value) (hs : ρ s = v) (hx : ρ x = xv) {v' : Value} {w' : World}
    (hr : (Builtin.append_ #[t, t] o.type #[v, xv]).run P w = .ok v' w') (h : R v' w') : GivesM P R ((execOp ρ o).run P w) := by
 unfold execOp
 simp only [ho, resolve, invoke, builtin, Sem.run_bind, Sem.run_pure, Result.andThen_ok, List.map_toArray, List.map_cons, List.map_nil, hs, hx, hr]
 exact ⟨h⟩
structure But (S : Nat → Prop) (w w' : World) : Prop where
 os : w'.os = w.os
 tape : w'.tape = w.tape
 output : w'.output = w.output
 size : w.heap.size ≤ w'.heap.size
 block : ∀ i, i < w.heap.size → ¬ S i → w'.heap[i]? = w.heap[i]?
section
variable {S T : Nat → Prop} {a b c : World}
theorem But.trans (h : But S a b) (k : But S b c) : But S a c :=
 ⟨k.os.trans h.os, k.tape.trans h.tape, k.output.trans h.output, Nat.le_trans h.size k.size, fun i hi hn => (k.block i (Nat.lt_of_lt_of_le hi h.size) hn).trans (h.block i hi hn)⟩
theorem But.upd {g : Nat} (h : Upd g a b) (hg : S g) : But S a b := ⟨h.os, h.tape, h.output, h.size, fun i hi hn => h.block i hi fun e => hn (by injection e with e; subst e; exact hg)⟩
theorem But.after {w : World} (h : Ext w a) (k : But S a b) (hs : ∀ i, S i → w.heap.size ≤ i) : Ext w b :=
 ⟨k.os.trans h.os, k.tape.trans h.tape, k.output.trans h.output, Nat.le_trans h.size k.size, fun i hi => (k.block i (Nat.lt_of_lt_of_le hi h.size) fun e => by have := hs i e; omega).trans (h.block i hi)⟩
theorem But.cell {i o : Nat} (h : But S a b) (hi : i < a.heap.size) (hn : ¬ S i) : b.cell? ⟨i, o, none⟩ = a.cell? ⟨i, o, none⟩ := World.cell?_of_block (h.block i hi hn)
end
def RowsIn {α : Type} (L H m : Nat) (f : α → List Value) (w : World) (v : Value) (xs : List α) : Prop :=
 ∃ A c, v = .slice A xs.length c ∧ xs.length ≤ c ∧ (0 < xs.length → ∃ b o, A = some ⟨b, o, none⟩ ∧ L ≤ b ∧ b < H ∧ b < w.heap.size ∧ ∀ j x, xs[j]? = some x → ∀ i u, (f x)[i]? = some u → w.cell? ⟨b, o + j * m + i, none⟩ = some u)
section
variable {α : Type} {L H m : Nat} {f : α → List Value} {w w' : World} {v : Value} {xs : List α}
theorem RowsIn.rows (h : RowsIn L H m f w v xs) : RowsAt m f w v xs := by
 obtain ⟨A, c, rfl, hc, hA⟩ := h
 exact ⟨A, c, rfl, hc, fun h0 => by obtain ⟨b, o, h1, _, _, h2, h3⟩ := hA h0; exact ⟨b, o, h1, h2, h3⟩⟩
theorem RowsIn.but {S : Nat → Prop} (h : RowsIn L H m f w v xs) (k : But S w w') (hs : ∀ b, L ≤ b → b < H → ¬ S b) : RowsIn L H m f w' v xs := by
 obtain ⟨A, c, rfl, hc, hA⟩ := h
 refine ⟨A, c, rfl, hc, fun h0 => ?_⟩
 obtain ⟨b, o, h1, h2, h3, h4, h5⟩ := hA h0
 exact ⟨b, o, h1, h2, h3, Nat.lt_of_lt_of_le h4 k.size, fun j x hj i u hu => by rw [k.cell h4 (hs b h2 h3)]; exact h5 j x hj i u hu⟩
theorem OwnRows.rowsIn {e : TypeId} {B : Nat} (hf : ∀ x, (f x).length = m) (h : OwnRows e m f w B v xs) : RowsIn B w.heap.size m f w v xs := by
 obtain ⟨A, c, rfl, hc, hA⟩ := OwnRows.rows hf h
 refine ⟨A, c, rfl, hc, fun h0 => ?_⟩
 obtain ⟨b, o, rfl, h2, h3⟩ := hA h0
 have h1 : (Value.slice (some ⟨b, o, none⟩) xs.length c).ownBlock = some b := rfl
 exact ⟨b, o, rfl, (h.lt b h1).1, h2, h2, h3⟩
theorem RowsAt.cell {A : Option Addr} {n c : Nat} (h : RowsAt m f w (.slice A n c) xs) (hn : 0 < xs.length) : ∃ b o, A = some ⟨b, o, none⟩ ∧ b < w.heap.size ∧ ∀ j x, xs[j]? = some x → ∀ i u, (f x)[i]? = some u → w.cell? ⟨b, o + j * m + i, none⟩ = some u := by
 obtain ⟨A', c', hv, _, hA⟩ := h
 simp only [Value.slice.injEq] at hv
 obtain ⟨rfl, _, _⟩ := hv
 exact hA hn
end
section
variable {α : Type} {L H m : Nat} {f : α → List Value} {w w' : World} {v : Value} {xss : List (List α)}
end
theorem setCells_upd (g : Nat) : ∀ (ds : List Value) (w : World) (i : Nat), Upd g w (w.setCells g i ds)
 | [], w, _ => Upd.refl g w
 | d :: ds, w, i => ((Upd.refl g w).set i d).trans (setCells_upd g ds _ (i + 1))
theorem setCells_blk {g : Nat} {T : TypeId} : ∀ (ds : List Value) {w : World} (pre rest : List Value), rest.length = ds.length → w.heap[g]? = some (.cells (pre ++ rest).toArray T (0, 0)) → (w.setCells g pre.length ds).heap[g]? = some (.cells (pre ++ ds).toArray T (0, 0))
 | [], w, pre, rest, hl, h => by
  have : rest = [] := List.eq_nil_of_length_eq_zero hl
  subst this
  exact h
 | d :: ds, w, pre, [], hl, h => by simp at hl
 | d :: ds, w, pre, r :: rest, hl, h => by
  have h1 := blk_set h pre.length d
  have e : (pre ++ r :: rest).toArray.setIfInBounds pre.length d = ((pre ++ [d]) ++ rest).toArray := by
   apply Array.ext'
   simp [List.set_append]
  rw [e] at h1
  have h2 := setCells_blk ds (pre ++ [d]) rest (by simpa using hl) h1
  simp only [List.length_append, List.length_singleton, List.append_assoc, List.singleton_append] at h2
  exact h2
theorem setCells_at {g : Nat} {T : TypeId} {w : World} (cs ds : List Value) (hl : cs.length = ds.length) (h : w.heap[g]? = some (.cells cs.toArray T (0, 0))) : (w.setCells g 0 ds).heap[g]? = some (.cells ds.toArray T (0, 0)) := setCells_blk ds [] cs hl h
theorem there_row {w : World} {g n : Nat} {T : TypeId} {cs : Array Value} (h : w.heap[g]? = some (.cells cs T (0, 0))) (hn : n ≤ cs.size) : w.there g 0 n := fun j hj => by
 rw [Nat.zero_add]
 refine ⟨?_, frozen_of_row _ _ j _ _ h⟩
 rw [blk_cell h j _ (Array.getElem?_eq_getElem (by omega))]
 rfl
theorem range_row {w : World} {g : Nat} {T : TypeId} {cs : List Value} {fr : Nat × Nat} (h : w.heap[g]? = some (.cells cs.toArray T fr)) : w.rangeAt g 0 cs := fun j v hv => by
 rw [Nat.zero_add]
 exact blk_cell h j v (by simpa using hv)
section
variable {P : Program}
theorem wpList_store_row {ops : Array Oper} {rest : List Oper} {op : Oper} {a : Act} {w : World} {Q : Exit → Act → World → Prop} (hgd : op.guard = none) (ty : TypeId) (x y : Operand) (ho : op.op = .store ty x y)
    (b : Nat) (ds : List Value) (v : Value) (hx : a.eval x = .pointer (some ⟨b, 0, none⟩)) (hy : a.eval y = v) (hv : v = .agg ds.toArray) (ht : w.there b 0 ds.length) (hi : (P.info? ty).map (·.size) = some ds.length) (h1 : ∀ u ∈ ds, u.oneCell' = true)
    {w' : World} (hw : w.setCells b 0 ds = w') (h : wpList P ops Q rest (a.put op.dst undef) w') : wpList P ops Q (op :: rest) a w := by
 subst hv hw
 exact wpList_store_mid hgd ty x y ho b 0 ds.toArray hx hy (by simpa using ht) (by simpa using hi) (all_oneCell_toArray h1) (by simpa using h)
theorem wpList_load_rowW {ops : Array Oper} {rest : List Oper} {op : Oper} {a : Act} {w : World} {Q : Exit → Act → World → Prop} (hw : Region.wanted op (yielded ops a.tmps) = true) (ty : TypeId) (x : Operand) (ho : op.op = .load ty x)
    (b : Nat) (hx : a.eval x = .pointer (some ⟨b, 0, none⟩)) (cs : List Value) (v : Value) (hv : v = .agg cs.toArray) (d : TypeDesc) (hc : w.rangeAt b 0 cs) (hu : P.underlying ty = some d) (hd : d.isRow = true) (hi : (P.info? ty).map (·.size) = some cs.length)
    (h : wpList P ops Q rest (a.put op.dst v) w) : wpList P ops Q (op :: rest) a w := by
 subst hv
 unfold wpList
 rw [if_pos hw]
 left
 unfold Oper.wp execOp
 simp only [ho, hx, Sem.run_bind, run_loadAt_mid w b 0 ty cs d hc hu hd hi, Sem.run_pure, Result.andThen_ok]
 exact h
theorem wpList_load_rowM {ops : Array Oper} {rest : List Oper} {op : Oper} {a : Act} {w : World} {Q : Exit → Act → World → Prop} (hw : Region.wanted op (yielded ops a.tmps) = true) (ty : TypeId) (x : Operand) (ho : op.op = .load ty x)
    (b off : Nat) (hx : a.eval x = .pointer (some ⟨b, off, none⟩)) (cs : List Value) (v : Value) (hv : v = .agg cs.toArray) (d : TypeDesc) (hc : w.rangeAt b off cs) (hu : P.underlying ty = some d) (hd : d.isRow = true) (hi : (P.info? ty).map (·.size) = some cs.length)
    (h : wpList P ops Q rest (a.put op.dst v) w) : wpList P ops Q (op :: rest) a w := by
 subst hv
 unfold wpList
 rw [if_pos hw]
 left
 unfold Oper.wp execOp
 simp only [ho, hx, Sem.run_bind, run_loadAt_mid w b off ty cs d hc hu hd hi, Sem.run_pure, Result.andThen_ok]
 exact h
theorem givesM_store {R : Value → World → Prop} {o : Oper} {a : Act} {w : World} (ty : TypeId) (x y : Operand) (ho : o.op = .store ty x y) (b off : Nat) (hx : a.eval x = .pointer (some ⟨b, off, none⟩)) (ds : List Value) (hy : a.eval y = .agg ds.toArray)
    (ht : w.there b off ds.length) (hi : (P.info? ty).map (·.size) = some ds.length) (h1 : ∀ u ∈ ds, u.oneCell' = true) (hR : R undef (w.setCells b off ds)) : GivesM P R ((execOp a.eval o).run P w) := by
 refine ⟨?_⟩
 unfold execOp
 simp only [ho, hx, hy, Instr.storeAt, Instr.sureAddr, Sem.run_bind, Sem.run_pure, Result.andThen_ok, run_storeVar_mid w b off ty ds.toArray (by simpa using ht) (by simpa using hi) (all_oneCell_toArray h1)]
 exact hR
theorem bodyPost_cell_tmp {fn : Func} {p u : Tmp} {ty : TypeId} {a : Act} {w : World} {Q : Ending → World → Prop} (h : fn.results = #[.cell p ty, .tmp u]) (g : Nat) (t : TypeId) (cs : Array Value) (fr : Nat × Nat) (d : TypeDesc)
    (hp : a.tmps.getD p undef = .pointer (some ⟨g, 0, none⟩)) (hg : w.heap[g]? = some (.cells cs t fr)) (hu : P.underlying ty = some d) (hd : (match d with | .struct _ | .array _ _ => true | _ => false) = true) (hi : (P.info? ty).map (·.size) = some cs.size) (x : Value) (hx : a.tmps.getD u undef = x) (hdf : a.defers = [])
    (hQ : Q (.returned (.tuple #[.agg cs, x])) w) : bodyPost P fn Q .ret a w := by
 subst hx
 refine bodyPost_ret (v := .tuple #[.agg cs, a.tmps.getD u undef]) ?_ hdf hQ
 rw [results_cell_tmp h, hp]
 simp only [asAddr, Sem.run_pure, Result.andThen_ok, run_loadVar_row w g t ty cs fr d hg hu hd hi]
theorem givesP_load {o : Oper} {a : Act} {w : World} (ty : TypeId) (x : Operand) (ho : o.op = .load ty x) (b : Nat) (hx : a.eval x = .pointer (some ⟨b, 0, none⟩)) (cs : List Value) (v : Value) (hv : v = .agg cs.toArray) (d : TypeDesc)
    (hc : w.rangeAt b 0 cs) (hu : P.underlying ty = some d) (hd : d.isRow = true) (hi : (P.info? ty).map (·.size) = some cs.length) : GivesP v w ((execOp a.eval o).run P w) := by
 subst hv
 refine ⟨?_⟩
 unfold execOp
 simp only [ho, hx, Sem.run_bind, run_loadAt_mid w b 0 ty cs d hc hu hd hi, Sem.run_pure, Result.andThen_ok]
 exact ⟨rfl, rfl⟩
end
theorem RowsAt.get {α : Type} {m : Nat} {f : α → List Value} {w : World} {A : Option Addr} {n c : Nat} {xs : List α} (h : RowsAt m f w (.slice A n c) xs) {k : Nat} {x : α} (hk : xs[k]? = some x) :
    ∃ b o, A = some ⟨b, o, none⟩ ∧ b < w.heap.size ∧ ∀ i u, (f x)[i]? = some u → w.cell? ⟨b, o + k * m + i, none⟩ = some u := by
 obtain ⟨b, o, hA, hb, hc⟩ := h.cell (by have := (List.getElem?_eq_some_iff.1 hk).1; omega)
 exact ⟨b, o, hA, hb, fun i u hu => hc k x hk i u hu⟩
structure StH where
 pa : Option Addr
 pc : Nat
 ga : Option Addr
 gc : Nat
 qa : Option Addr
 qc : Nat
 ma : Option Addr
 mc : Nat
 la : Option Addr
 lc : Nat
 a0 : Option Addr
 k0 : Nat
 a1 : Option Addr
 k1 : Nat
 a2 : Option Addr
 k2 : Nat
 a3 : Option Addr
 k3 : Nat
 ta : Option Addr
 tc : Nat
def stV (h : StH) (s : St) : Value := .agg #[.slice h.pa s.prog.length h.pc, .slice h.ga s.gs.length h.gc, .slice h.qa s.ps.length h.qc, .slice h.ma s.ms.length h.mc, .slice h.la s.glob.length h.lc, .int .i64 s.c0, .int .i64 s.c1, .int .i64 s.c2, .int .i64 s.c3, .slice h.a0 s.w0.length h.k0, .slice h.a1 s.w1.length h.k1, .slice h.a2 s.w2.length h.k2, .slice h.a3 s.w3.length h.k3, .slice h.ta s.timers.length h.tc, .int .i64 s.clock, .int .i64 s.procs]
def stL (h : StH) (s : St) : List Value := [.slice h.pa s.prog.length h.pc, .slice h.ga s.gs.length h.gc, .slice h.qa s.ps.length h.qc, .slice h.ma s.ms.length h.mc, .slice h.la s.glob.length h.lc, .int .i64 s.c0, .int .i64 s.c1, .int .i64 s.c2, .int .i64 s.c3, .slice h.a0 s.w0.length h.k0, .slice h.a1 s.w1.length h.k1, .slice h.a2 s.w2.length h.k2, .slice h.a3 s.w3.length h.k3, .slice h.ta s.timers.length h.tc, .int .i64 s.clock, .int .i64 s.procs]
def stC (h : StH) (s : St) : Array Value := #[.slice h.pa s.prog.length h.pc, .slice h.ga s.gs.length h.gc, .slice h.qa s.ps.length h.qc, .slice h.ma s.ms.length h.mc, .slice h.la s.glob.length h.lc, .int .i64 s.c0, .int .i64 s.c1, .int .i64 s.c2, .int .i64 s.c3, .slice h.a0 s.w0.length h.k0, .slice h.a1 s.w1.length h.k1, .slice h.a2 s.w2.length h.k2, .slice h.a3 s.w3.length h.k3, .slice h.ta s.timers.length h.tc, .int .i64 s.clock, .int .i64 s.procs]
section
variable {v : World} {b : Nat} {h : StH} {s : St} {T : TypeId}
end
theorem bcell {W w1 : World} (hb : Ext W w1) : (∀ b o, b < W.heap.size → w1.cell? ⟨b, o, none⟩ = W.cell? ⟨b, o, none⟩) := fun b o h => Below.cell (p := ⟨b, o, none⟩) hb h
end Go.Proofs.YtohncgikdlbogaaDoor
