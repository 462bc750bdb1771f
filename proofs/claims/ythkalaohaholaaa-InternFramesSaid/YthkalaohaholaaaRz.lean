/-
  A drawn region that also stores into a block that was made ahead of it, and from which it reads nothing; records in slices of its own. No function of the program is named.
-/
import Derived.Test.YthkalaohaholaaaGe
set_option linter.unusedVariables false
set_option linter.unusedSimpArgs false
namespace Go.Proofs.Ythkalaohaholaaa
open Go.RowKit

theorem givesM_skipz {P : Program} {R : Value → World → Prop} {w : World} (h : R undef w) : GivesM P R (.ok .skip w) := ⟨h⟩
section
variable {P : Program} {ops : Array Oper} {Q : Exit → Act → World → Prop}
/-- All blocks below M are as they were. -/
def LowSame (M : Nat) (w w' : World) : Prop := ∀ b, b < M → w'.heap[b]? = w.heap[b]?
theorem LowSame.ext {M : Nat} {w w' : World} (h : Ext w w') (hM : M ≤ w.heap.size) : LowSame M w w' := fun b hb => h.block b (by omega)
def chgOfM (w0 : World) (M : Nat) : List (Nat × Nat × List Nat) → Nat → (Nat → GV) → World → World → Prop
  | [], _, _ => Ext
  | p :: l, i, u => if p.1 = i then fun w w' => ChgIn w0 p.2.1 (p.2.2.map u) w w' ∧ LowSame M w w' else chgOfM w0 M l i u
theorem chgOfM_cases (w0 : World) (M : Nat) (cs : List (Nat × Nat × List Nat)) (i : Nat) : (∀ u, chgOfM w0 M cs i u = Ext) ∨ ∃ n js, (i, n, js) ∈ cs ∧ ∀ u, chgOfM w0 M cs i u = fun w w' => ChgIn w0 n (js.map u) w w' ∧ LowSame M w w' := by
  induction cs with
  | nil => exact .inl fun _ => rfl
  | cons p l ih =>
    by_cases h : p.1 = i
    · refine .inr ⟨p.2.1, p.2.2, by rw [← h]; simp, fun u => ?_⟩
      conv => lhs; unfold chgOfM
      rw [if_pos h]
    · rcases ih with ih | ⟨n, js, h1, h2⟩
      · refine .inl fun u => ?_
        conv => lhs; unfold chgOfM
        rw [if_neg h]; exact ih u
      · refine .inr ⟨n, js, by simp [h1], fun u => ?_⟩
        conv => lhs; unfold chgOfM
        rw [if_neg h]; exact h2 u
/-- Operation z stores into block g. -/
def zOf (g z : Nat) (K : World → Prop) (E : Nat → (Nat → GV) → World → World → Prop) (i : Nat) (u : Nat → GV) : World → World → Prop := if i = z then fun w w' => Upd g w w' ∧ K w' else E i u
theorem region_rgz (l : Fam) (w0 : World) (M g z : Nat) (K : World → Prop) (cs : List (Nat × Nat × List Nat)) {id : Nat} {a : Act} {w : World} (hm : P.follows .mixedOrders = true) (hok : rgOk .any ops (rgMasks .any ops) = true)
    (hcs : ∀ p ∈ cs, ∀ j ∈ p.2.2, (rgPre (rgMasks .any ops) p.1 j && famM l j) = true)
    (hl : ∀ p ∈ l, (∃ u, p.2.1 u) ∧ (∀ u v w, (∀ j, (j = p.1 ∨ rgPre (rgMasks .any ops) p.1 j = true) → famM l j = true → u j = v j) → p.2.2 u w → p.2.2 v w) ∧ (∀ u w w', Ext w w' → p.2.2 u w → p.2.2 u w') ∧
      (∀ q ∈ cs, q.1 ≠ p.1 → rgPre (rgMasks .any ops) p.1 q.1 = false → ∀ u w w', (∀ j ∈ q.2.2, p.1 ≠ j → (u j).apart (u p.1)) → ChgIn w0 q.2.1 (q.2.2.map u) w w' → p.2.2 u w → p.2.2 u w') ∧
      (p.1 ≠ z → ∀ u w w', Upd g w w' → p.2.2 u w → p.2.2 u w'))
    (hg : w0.heap.size ≤ g) (hKL : ∀ w w', LowSame M w w' → K w → K w') (hB : Ext w0 w) (hM : M ≤ w.heap.size) (hK : K w)
    (h : RG P ops Q (rgMasks .any ops) (famM l) (famV l) (famT l) (zOf g z K (chgOfM w0 M cs)) (fun w => Ext w0 w ∧ M ≤ w.heap.size ∧ K w) ops.size 0 [] a) : (Code.region id ops true).wp P Q a w := by
  refine region_rg (rgMasks .any ops) (famM l) (famV l) (famT l) (zOf g z K (chgOfM w0 M cs)) (fun w => Ext w0 w ∧ M ≤ w.heap.size ∧ K w) hm hok (fun k _ => famV_some (fun p hp => (hl p hp).1) k) (fun k u v w => famT_loc (fun p hp => (hl p hp).2.1) k u v w) ?_ ?_ ?_ ⟨hB.drew, hM, hKL w w.drew (fun b _ => rfl) hK⟩ h
  · intro i u w w' hw hE
    unfold zOf at hE
    split at hE
    · exact ⟨⟨hw.1.upd hE.1 hg, Nat.le_trans hw.2.1 hE.1.size, hE.2⟩, hE.1.size⟩
    · rcases chgOfM_cases w0 M cs i with h | ⟨n, js, _, h⟩
      · rw [h] at hE; exact ⟨⟨hw.1.trans hE, Nat.le_trans hw.2.1 hE.size, hKL _ _ (LowSame.ext hE hw.2.1) hw.2.2⟩, hE.size⟩
      · rw [h] at hE; exact ⟨⟨hE.1.new, Nat.le_trans hw.2.1 hE.1.size, hKL _ _ hE.2 hw.2.2⟩, hE.1.size⟩
  · intro i u v w w' hj hE
    unfold zOf at hE ⊢
    split
    · rename_i hi; rwa [if_pos hi] at hE
    · rename_i hi
      rw [if_neg hi] at hE
      rcases chgOfM_cases w0 M cs i with h | ⟨n, js, hm, h⟩
      · rw [h] at hE ⊢; exact hE
      · rw [h] at hE ⊢
        have e : js.map u = js.map v := List.map_congr_left fun j hjm => by
          have := hcs _ hm j hjm
          simp only [Bool.and_eq_true] at this
          exact hj j (.inr this.1) this.2
        rwa [← e]
  · intro i k u w w' hik hpk _ hmk hap hT hE
    unfold zOf at hE
    split at hE
    · rename_i hi
      exact famT_at k (fun t => t u w → t u w') (fun _ => trivial) (fun p hp he => (hl p hp).2.2.2.2 (by rw [he, ← hi]; exact Ne.symm hik) u w w' hE.1) hT
    · rcases chgOfM_cases w0 M cs i with h | ⟨n, js, hm, h⟩
      · rw [h] at hE
        exact famT_ext (fun p hp => (hl p hp).2.2.1) k u w w' hT hE
      · rw [h] at hE
        exact famT_at k (fun t => t u w → t u w') (fun _ => trivial) (fun p hp he => (hl p hp).2.2.2.1 (i, n, js) hm (by rw [he]; exact hik) (by rw [he]; exact hpk) u w w' (fun j hjm hne => by
          have := hcs _ hm j hjm
          simp only [Bool.and_eq_true] at this
          rw [he]
          exact hap j k (.inr this.1) (.inl rfl) this.2 hmk (fun e => hne (by rw [he, e]))) hE.1) hT
end
section
variable {α : Type} {m : Nat} {f : α → List Value} {w w' w0 : World} {v : Value} {xs ys : List α} {e : TypeId} {B M g n : Nat} {gs hs : List GV}
theorem OwnRows.upd {α : Type} {e : TypeId} {m : Nat} {f : α → List Value} {w w' : World} {B g : Nat} {v : Value} {xs : List α} (h : OwnRows e m f w B v xs) (hu : Upd g w w') (hg : g < B) : OwnRows e m f w' B v xs :=
  h.kept hu (by
    cases hv : v.ownBlock with
    | none => exact .inl rfl
    | some k => right; have := (h.lt k hv).1; intro he; injection he; omega)
theorem OwnRows.lower (h : OwnRows e m f w M v xs) (hb : B ≤ M) : OwnRows e m f w B v xs := by
  rcases h.2 with ⟨e1, e2⟩ | ⟨g, cap, cur, e1, e2, e3⟩
  · exact ⟨h.1, .inl ⟨e1, e2⟩⟩
  · exact ⟨h.1, .inr ⟨g, cap, cur, e1, by omega, e3⟩⟩
/-- Records of a region's own, in blocks from M on that those operations made. -/
def RowG (e : TypeId) (m : Nat) (f : α → List Value) (M : Nat) (w : World) (v : Value) (xs : List α) (gs : List GV) : Prop := OwnRows e m f w M v xs ∧ InB gs v
theorem RowG.ext (h : RowG e m f M w v xs gs) (hx : Ext w w') : RowG e m f M w' v xs gs := ⟨OwnRows.ext h.1 hx, h.2⟩
theorem RowG.chg (h : RowG e m f M w v xs gs) (hc : ChgIn w0 n hs w w') (hn : xs.length * m ≤ n) : RowG e m f M w' v xs gs := ⟨hc.owns h.1 hn, h.2⟩
theorem RowG.far (h : RowG e m f M w v xs gs) (hc : ChgIn w0 n hs w w') (hap : ∀ g ∈ hs, ∀ k ∈ gs, g.apart k) : RowG e m f M w' v xs gs := ⟨hc.ownsFar h.1 h.2 hap, h.2⟩
theorem RowG.updz (h : RowG e m f M w v xs gs) (hu : Upd g w w') (hg : g < M) : RowG e m f M w' v xs gs := ⟨OwnRows.upd h.1 hu hg, h.2⟩
theorem RowG.made (hM : M ≤ w.heap.size) (t : TypeId) (u : Value) : RowG t m f M (w.alloc (.cells #[] t)) (.slice (some ⟨w.heap.size, 0, none⟩) 0 0) ([] : List α) [⟨u, w.heap.size, (w.alloc (.cells #[] t)).heap.size⟩] := by
  refine ⟨?_, InB.made (by simp) u⟩
  have := World.ownsRow_made (base := M) (e := t) (size := m) w #[] 0 hM (by decide) (by simp)
  exact this
theorem RowG.made1 (hM : M ≤ w.heap.size) (x : α) (hf : (f x).length = m) (u : Value) : RowG e m f M (w.alloc (.cells (f x).toArray e)) (.slice (some ⟨w.heap.size, 0, none⟩) 1 1) [x] [⟨u, w.heap.size, (w.alloc (.cells (f x).toArray e)).heap.size⟩] := by
  refine ⟨?_, InB.made (by simp) u⟩
  exact ⟨by simp [hf], .inr ⟨w.heap.size, 1, (f x).toArray, rfl, hM, heap_alloc_new w _, Nat.le_refl _, by unfold maxLen; omega, by simp [hf], by simp [← hf]⟩⟩
/-- An append of records to a slice of the region's own. -/
theorem RowG.append {P : Program} {t : TypeId} (ty : TypeId) {bytes : Nat} {i : TypeInfo} {z : Value} (ht : P.underlying t = some (.slice e)) (hi : P.info? e = some i) (hz : i.zero = some z) (hsize : i.size = m) (hby : i.bytes = bytes) (hzs : z.cells.size = m) (hsz : 0 < m)
    (hf : ∀ x, (f x).length = m) (h1 : ∀ x, ∀ u ∈ f x, u.oneCell' = true) (h0 : Ext w0 w) (h : RowG e m f M w v xs gs) (hM0 : w0.heap.size ≤ M) (hMw : M ≤ w.heap.size) {A : Option Addr} {k c : Nat} (hk : k = ys.length) (hv : RowsAt m f w (.slice A k c) ys) (h63 : xs.length + ys.length ≤ maxLen) (hbytes : (xs.length + ys.length) * bytes ≤ 140737488355328) :
    ∃ v' w', (Builtin.append_ #[t, t] ty #[v, .slice A k c]).run P w = .ok v' w' ∧ (∃ A' c', v' = .slice A' (xs.length + ys.length) c') ∧ RowG e m f M w' v' (xs ++ ys) (⟨v', w.heap.size, w'.heap.size⟩ :: gs) ∧ ChgIn w0 (xs.length * m) gs w w' ∧ LowSame M w w' := by
  subst hk
  obtain ⟨A0, c0, hvv, hc, hA⟩ := hv
  simp only [Value.slice.injEq, true_and] at hvv
  obtain ⟨rfl, rfl⟩ := hvv
  have hnews : 0 < ys.length → ∃ ad, A = some ad ∧ ∀ j u, (ys.flatMap f)[j]? = some u → w.cell? (ad.add j) = some u := fun h0 => by
    obtain ⟨b, o, rfl, hb, hcell⟩ := hA h0
    refine ⟨_, rfl, fun j u hj => ?_⟩
    rw [Addr.add_lit]
    have hjl : j < ys.length * m := by have := (List.getElem?_eq_some_iff.1 hj).1; rwa [flatMap_len hf] at this
    have hq : j / m < ys.length := Nat.div_lt_of_lt_mul (by rw [Nat.mul_comm]; exact hjl)
    have hr : j % m < (f ys[j / m]).length := by rw [hf]; exact Nat.mod_lt _ hsz
    have h2 := flatMap_get hf ys (j / m) _ (List.getElem?_eq_getElem hq) (j % m) _ (List.getElem?_eq_getElem hr)
    have hjj : j / m * m + j % m = j := by rw [Nat.mul_comm]; exact Nat.div_add_mod j m
    rw [hjj, hj] at h2
    have h3 := hcell (j / m) _ (List.getElem?_eq_getElem hq) (j % m) _ (List.getElem?_eq_getElem hr)
    rw [← h2] at h3
    rw [Nat.add_assoc, hjj] at h3
    exact h3
  have hone : ∀ u ∈ ys.flatMap f, u.oneCell' = true := fun u hu => by
    obtain ⟨x, _, hx⟩ := List.mem_flatMap.1 hu
    exact h1 x u hx
  obtain ⟨v', w', hr, ho, hg, hin⟩ := own_append_chg (P := P) ty ht hi hz hsize hby hzs hsz h0 (OwnRows.lower h.1 hM0) h.2 (A := A) (m := ys.length) c (news := ys.flatMap f) (flatMap_len hf ys) hnews hone h63 hbytes
  obtain ⟨v2, w2, hr2, ho2, hg2, _⟩ := own_append2 (P := P) ty ht hi hz hsize hby hzs hsz h.1 (A := A) (m := ys.length) c (news := ys.flatMap f) (flatMap_len hf ys) hnews hone h63 hbytes hMw
  rw [hr] at hr2
  injection hr2 with e1 e2
  subst e1 e2
  have ho3 : OwnRows e m f w' M v' (xs ++ ys) := by unfold OwnRows; rw [List.length_append, List.flatMap_append]; exact ho2
  obtain ⟨A', c', hv', _⟩ := (ho3.rows hf).form
  exact ⟨v', w', hr, ⟨A', c', by rw [hv', List.length_append]⟩, ⟨ho3, hin⟩, hg, fun b hb => hg2.block b (by omega) (fun he => by have := (OwnRows.lt h.1 b he.symm).1; omega)⟩
end

end Go.Proofs.Ythkalaohaholaaa
