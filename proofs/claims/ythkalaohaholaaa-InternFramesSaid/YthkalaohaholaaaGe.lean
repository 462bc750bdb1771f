/-
  Appends in a region whose order is drawn: what they change.
-/
import Derived.Test.YthkalaohaholaaaRr
import Derived.Test.YthkalaohaholaaaGd
set_option linter.unusedVariables false
set_option linter.unusedSimpArgs false
namespace Go.Proofs.Ythkalaohaholaaa
open Go.RowKit

/-- An append to a slice of the call's own: what it comes to, and what it changes. -/
theorem own_append_chg {P : Program} {w0 w : World} {e t : TypeId} {gs : List GV} (ty : TypeId) {size bytes : Nat} {i : TypeInfo} {z : Value} (ht : P.underlying t = some (.slice e)) (hi : P.info? e = some i) (hz : i.zero = some z)
    (hsize : i.size = size) (hby : i.bytes = bytes) (hzs : z.cells.size = size) (hsz : 0 < size) {v : Value} {n : Nat} {xs : List Value} (h0 : Ext w0 w) (hown : w.ownsRow w0.heap.size e size v n xs) (hin : InB gs v)
    {A : Option Addr} {m : Nat} (c : Nat) {news : List Value} (hl : news.length = m * size) (hA : 0 < m → ∃ ad, A = some ad ∧ ∀ j u, news[j]? = some u → w.cell? (ad.add j) = some u) (h1 : ∀ u ∈ news, u.oneCell' = true)
    (h63 : n + m ≤ maxLen) (hbytes : (n + m) * bytes ≤ 140737488355328) :
    ∃ v' w', (Builtin.append_ #[t, t] ty #[v, .slice A m c]).run P w = .ok v' w' ∧ w'.ownsRow w0.heap.size e size v' (n + m) (xs ++ news) ∧ ChgIn w0 (n * size) gs w w' ∧ InB (⟨v', w.heap.size, w'.heap.size⟩ :: gs) v' := by
  have fin : ∀ v' w', (Builtin.append_ #[t, t] ty #[v, .slice A m c]).run P w = .ok v' w' → w'.ownsRow w0.heap.size e size v' (n + m) (xs ++ news) → w.grownBy w' v.ownBlock → (v'.ownBlock = v.ownBlock ∨ v'.ownBlock = some w.heap.size) →
      (∀ g cur, v.ownBlock = some g → w.heap[g]? = some (.cells cur e (0, 0)) → ∃ cs' : Array Value, w'.heap[g]? = some (.cells cs' e (0, 0)) ∧ cs'.size = cur.size ∧ cs'.toList.take (n * size) = cur.toList.take (n * size)) →
      ∃ v' w', (Builtin.append_ #[t, t] ty #[v, .slice A m c]).run P w = .ok v' w' ∧ w'.ownsRow w0.heap.size e size v' (n + m) (xs ++ news) ∧ ChgIn w0 (n * size) gs w w' ∧ InB (⟨v', w.heap.size, w'.heap.size⟩ :: gs) v' := fun v' w' hr ho hg hb hp => by
    refine ⟨v', w', hr, ho, ChgIn.append h0 hown hin hg ho (fun k hk => (World.ownsRow.lt hown k hk).1) hp, fun k hk => ?_⟩
    rcases hb with hb | hb
    · rw [hb] at hk
      obtain ⟨g, hg1, hg2⟩ := hin k hk
      exact ⟨g, by simp [hg1], hg2⟩
    · have hlt := (World.ownsRow.lt ho k hk).2
      rw [hb] at hk
      injection hk with hk
      subst hk
      exact ⟨⟨v', w.heap.size, w'.heap.size⟩, by simp, Nat.le_refl _, hlt⟩
  by_cases hm : m = 0
  · subst hm
    obtain rfl : news = [] := List.eq_nil_of_length_eq_zero (by rw [hl]; omega)
    have hs : Go.Src P i.size t (.slice A 0 c) 0 [] w := by
      cases A with
      | none => exact Go.Src.ofNil w ht c
      | some a => exact Go.Src.ofSlice w ht a 0 c [] (by simp) (by simp) (by simp)
    have hr : (Builtin.append_ #[t, t] ty #[v, .slice A 0 c]).run P w = .ok v w := by
      rcases hown.2 with ⟨rfl, _⟩ | ⟨g, cap, cur, rfl, _, _, hle, _⟩
      · exact Go.run_append_nothing w t t ty e i ht hi none 0 0 (Nat.le_refl _) _ hs
      · exact Go.run_append_nothing w t t ty e i ht hi (some ⟨g, 0, none⟩) n cap hle _ hs
    exact fin v w hr (by simpa using hown) (World.grownBy.refl w _) (.inl rfl) fun g cur _ hg => ⟨cur, hg, rfl, rfl⟩
  · obtain ⟨ad, rfl, hnews⟩ := hA (by omega)
    subst hsize
    subst hby
    have hlen : (xs ++ news).length = (n + m) * i.size := by rw [List.length_append, hown.1, hl, Nat.add_mul]
    have hsmall : n + m ≤ 9223372036854775807 := by simp only [maxLen] at h63; omega
    obtain ⟨v', w', hr, ho, hg, _, hb⟩ := run_append_own_at (P := P) w w0.heap.size t ty e i z i.size i.bytes ht hi hz rfl rfl hzs hsz v n xs hown ad m c news hl hnews h1 h63 hbytes h0.size
    refine fin v' w' hr ho hg hb fun g cur hv hgc => ?_
    rcases hown.2 with ⟨rfl, _⟩ | ⟨g', cap, cur', rfl, hbg, hg', hnc, hcm, hcs, htake⟩
    · cases hv
    · simp only [Value.ownBlock, Option.some.injEq] at hv
      subst hv
      rw [hg'] at hgc
      simp only [Option.some.injEq, Obj.cells.injEq] at hgc
      obtain ⟨rfl, _⟩ := hgc
      by_cases hroom : n + m ≤ cap
      · have hfit : n * i.size + news.length ≤ cur'.size := by rw [hl, hcs, ← Nat.add_mul]; exact Nat.mul_le_mul_right _ hroom
        have hr2 := run_append_room (P := P) w t ty e i ht hi g' n cap cur' hg' ad m c news hl hnews h1 hroom hfit
        rw [hr] at hr2
        injection hr2 with hr2 hr3
        refine ⟨_, by rw [hr3]; exact setRow_heap w g' cur' _ e _ hg', ?_, ?_⟩
        · simp only [List.size_toArray, List.length_append, List.length_take, List.length_drop, Array.length_toList]
          omega
        · have hcl : n * i.size ≤ cur'.toList.length := by rw [Array.length_toList]; omega
          rw [List.append_assoc, List.take_append_of_le_length (by rw [List.length_take]; omega), List.take_take, Nat.min_self]
      · have holds : ∀ j u, xs[j]? = some u → w.cell? ((⟨g', 0, none⟩ : Addr).add j) = some u := hown.cells (g := g') rfl
        have hr2 := run_append_grow (P := P) w t ty e i z ht hi hz ⟨g', 0, none⟩ n cap xs hown.1 holds ad m c news hl hnews (by omega) (by omega) (growslice_fits (by omega) hbytes)
        rw [hr] at hr2
        injection hr2 with hr2 hr3
        exact ⟨cur', by rw [hr3]; exact (heap_alloc_old w.drew _ (Array.getElem?_eq_some_iff.1 hg').1).trans hg', rfl, rfl⟩
/-- An operation that appends comes to that. -/
theorem givesM_append {P : Program} {R : Value → World → Prop} {ρ : Operand → Value} {o : Oper} {w : World} (s x : Operand) (t : TypeId) (ho : o.op = .call { callee := .builtin .append, args := #[s, x], argTypes := #[t, t] }) (v xv : Value) (hs : ρ s = v) (hx : ρ x = xv) {v' : Value} {w' : World}
    (hr : (Builtin.append_ #[t, t] o.type #[v, xv]).run P w = .ok v' w') (h : R v' w') : GivesM P R ((execOp ρ o).run P w) := by
  unfold execOp
  simp only [ho, resolve, invoke, builtin, Sem.run_bind, Sem.run_pure, Result.andThen_ok, List.map_toArray, List.map_cons, List.map_nil, hs, hx, hr]
  exact ⟨h⟩
theorem InB.made {w : World} {n c : Nat} {w' : World} (h : w.heap.size < w'.heap.size) (u : Value) : InB [⟨u, w.heap.size, w'.heap.size⟩] (.slice (some ⟨w.heap.size, 0, none⟩) n c) := fun k hk => by
  simp only [Value.ownBlock, Option.some.injEq] at hk
  subst hk
  exact ⟨⟨u, w.heap.size, w'.heap.size⟩, by simp, Nat.le_refl _, h⟩
theorem InB.of_lt {v u : Value} {s t : Nat} (h : ∀ k, v.ownBlock = some k → s ≤ k ∧ k < t) : InB [⟨u, s, t⟩] v := fun k hk => ⟨⟨u, s, t⟩, by simp, h k hk⟩

/-- Numbers of a region's own, in blocks that those operations made. -/
def OwnG (w0 w : World) (v : Value) (xs : List Int) (gs : List GV) : Prop := OwnInts w w0.heap.size v xs ∧ InB gs v
theorem OwnG.ext {w0 w w' : World} {v : Value} {xs : List Int} {gs : List GV} (h : OwnG w0 w v xs gs) (hx : Ext w w') : OwnG w0 w' v xs gs := ⟨h.1.ext hx, h.2⟩
theorem OwnG.chg {w0 w w' : World} {v : Value} {xs : List Int} {gs hs : List GV} {n : Nat} (h : OwnG w0 w v xs gs) (hc : ChgIn w0 n hs w w') (hn : xs.length ≤ n) : OwnG w0 w' v xs gs := ⟨hc.owns h.1 (by omega), h.2⟩
theorem OwnG.far {w0 w w' : World} {v : Value} {xs : List Int} {gs hs : List GV} {n : Nat} (h : OwnG w0 w v xs gs) (hc : ChgIn w0 n hs w w') (hap : ∀ g ∈ hs, ∀ k ∈ gs, g.apart k) : OwnG w0 w' v xs gs := ⟨hc.ownsFar h.1 h.2 hap, h.2⟩
theorem OwnG.ints {w0 w : World} {A : Option Addr} {n c : Nat} {xs : List Int} {gs : List GV} (h : OwnG w0 w (.slice A n c) xs gs) : IntsAt w (.slice A xs.length c) xs := by
  obtain ⟨A', c', e, h'⟩ := h.1.ints
  simp only [Value.slice.injEq] at e
  obtain ⟨rfl, rfl, rfl⟩ := e
  exact h'
/-- An empty slice that is made. -/
theorem OwnG.made {w0 w : World} (h : Ext w0 w) (u : Value) : OwnG w0 (w.alloc (.cells #[] 3)) (.slice (some ⟨w.heap.size, 0, none⟩) 0 0) [] [⟨u, w.heap.size, (w.alloc (.cells #[] 3)).heap.size⟩] := by
  refine ⟨?_, InB.made (by simp) u⟩
  have := World.ownsRow_made (base := w0.heap.size) (e := 3) (size := 1) w #[] 0 h.size (by decide) rfl
  exact this

end Go.Proofs.Ythkalaohaholaaa
