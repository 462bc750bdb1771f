/-
  Several texts in one: Ge, Gp, Gh, Tb, Nm, Nn.
-/
import Derived.Test.YtogcfndhcphpaaaA05
import Derived.Test.YtogcfndhcphpaaaA01
import Derived.Deep.MidRow
import Derived.Laws.EntriesVeiled
import Derived.Laws.ResultCell
import Derived.Laws.Rows
import Derived.Test.YtogcfndhcphpaaaA03
import Derived.Test.YtogcfndhcphpaaaA02
import Derived.DeepKeys
/-
  Appends in a region whose order is drawn: what they change.
-/
set_option linter.unusedVariables false
set_option linter.unusedSimpArgs false
namespace Go.Proofs.Ytogcfndhcphpaaa
open Go.RowKit

/-- An append to a slice of the call's own: what it comes to, and what it changes. -/
theorem own_append_chg {P : Program} {w0 w : World} {e t : TypeId} {gs : List GV} (ty : TypeId) {size bytes : Nat} {i : TypeInfo} {z : Value} (ht : P.underlying t = some (.slice e)) (hi : P.info? e = some i) (hz : i.zero = some z)
    (hsize : i.size = size) (hby : i.bytes = bytes) (hzs : z.cells.size = size) (hsz : 0 < size) {v : Value} {n : Nat} {xs : List Value} (h0 : Ext w0 w) (hown : w.ownsRow w0.heap.size e size v n xs) (hin : InB gs v)
    {A : Option Addr} {m : Nat} (c : Nat) {news : List Value} (hl : news.length = m * size) (hA : 0 < m → ∃ ad, A = some ad ∧ ∀ j u, news[j]? = some u → w.cell? (ad.add j) = some u) (h1 : ∀ u ∈ news, u.oneCell' = true)
    (h63 : n + m ≤ maxLen) (hbytes : (n + m) * bytes ≤ 140737488355328) :
    ∃ v' w', (Builtin.append_ #[t, t] ty #[v, .slice A m c]).run P w = .ok v' w' ∧ w'.ownsRow w0.heap.size e size v' (n + m) (xs ++ news) ∧ ChgIn w0 (n * size) gs w w' ∧ InB (⟨v', w.heap.size, w'.heap.size⟩ :: gs) v' := by
  have fin : ∀ v' w', (Builtin.append_ #[t, t] ty #[v, .slice A m c]).run P w = .ok v' w' → w'.ownsRow w0.heap.size e size v' (n + m) (xs ++ news) → w.grownBy w' v.ownBlock → (v'.ownBlock = v.ownBlock ∨ v'.ownBlock = some w.heap.size) →
      (∀ g cur, v.ownBlock = some g → w.heap[g]? = some (.cells cur e (0, 0)) → ∃ cs' : Array Value, w'.heap[g]? = some (.cells cs' e (0, 0)) ∧ cs'.size = cur.size ∧ cs'.toList.take (n * size) = cur.toList.take (n * size)) →
      ∃ v' w', (Builtin.append_ #[t, t] ty #[v, .slice A m c]).run P w = .ok v' w' ∧ w'.ownsRow w0.heap.size e size v' (n + m) (xs ++ news) ∧ ChgIn w0 (n * size) gs w w' ∧ InB (⟨v', w.heap.size, w'.heap.size⟩ :: gs) v' := fun v' w' hr ho hg hb hp => by
    refine ⟨v', w', hr, ho, ChgIn.append h0 hown hin hg ho (fun k hk => (World.ownsRow.lt hown k hk).1) hp, fun k hk => ?_⟩
    rcases hb with hb | hb
    · rw [hb] at hk
      obtain ⟨g, hg1, hg2⟩ := hin k hk
      exact ⟨g, by simp [hg1], hg2⟩
    · have hlt := (World.ownsRow.lt ho k hk).2
      rw [hb] at hk
      injection hk with hk
      subst hk
      exact ⟨⟨v', w.heap.size, w'.heap.size⟩, by simp, Nat.le_refl _, hlt⟩
  by_cases hm : m = 0
  · subst hm
    obtain rfl : news = [] := List.eq_nil_of_length_eq_zero (by rw [hl]; omega)
    have hs : Go.Src P i.size t (.slice A 0 c) 0 [] w := by
      cases A with
      | none => exact Go.Src.ofNil w ht c
      | some a => exact Go.Src.ofSlice w ht a 0 c [] (by simp) (by simp) (by simp)
    have hr : (Builtin.append_ #[t, t] ty #[v, .slice A 0 c]).run P w = .ok v w := by
      rcases hown.2 with ⟨rfl, _⟩ | ⟨g, cap, cur, rfl, _, _, hle, _⟩
      · exact Go.run_append_nothing w t t ty e i ht hi none 0 0 (Nat.le_refl _) _ hs
      · exact Go.run_append_nothing w t t ty e i ht hi (some ⟨g, 0, none⟩) n cap hle _ hs
    exact fin v w hr (by simpa using hown) (World.grownBy.refl w _) (.inl rfl) fun g cur _ hg => ⟨cur, hg, rfl, rfl⟩
  · obtain ⟨ad, rfl, hnews⟩ := hA (by omega)
    subst hsize
    subst hby
    have hlen : (xs ++ news).length = (n + m) * i.size := by rw [List.length_append, hown.1, hl, Nat.add_mul]
    have hsmall : n + m ≤ 9223372036854775807 := by simp only [maxLen] at h63; omega
    obtain ⟨v', w', hr, ho, hg, _, hb⟩ := run_append_own_at (P := P) w w0.heap.size t ty e i z i.size i.bytes ht hi hz rfl rfl hzs hsz v n xs hown ad m c news hl hnews h1 h63 hbytes h0.size
    refine fin v' w' hr ho hg hb fun g cur hv hgc => ?_
    rcases hown.2 with ⟨rfl, _⟩ | ⟨g', cap, cur', rfl, hbg, hg', hnc, hcm, hcs, htake⟩
    · cases hv
    · simp only [Value.ownBlock, Option.some.injEq] at hv
      subst hv
      rw [hg'] at hgc
      simp only [Option.some.injEq, Obj.cells.injEq] at hgc
      obtain ⟨rfl, _⟩ := hgc
      by_cases hroom : n + m ≤ cap
      · have hfit : n * i.size + news.length ≤ cur'.size := by rw [hl, hcs, ← Nat.add_mul]; exact Nat.mul_le_mul_right _ hroom
        have hr2 := run_append_room (P := P) w t ty e i ht hi g' n cap cur' hg' ad m c news hl hnews h1 hroom hfit
        rw [hr] at hr2
        injection hr2 with hr2 hr3
        refine ⟨_, by rw [hr3]; exact setRow_heap w g' cur' _ e _ hg', ?_, ?_⟩
        · simp only [List.size_toArray, List.length_append, List.length_take, List.length_drop, Array.length_toList]
          omega
        · have hcl : n * i.size ≤ cur'.toList.length := by rw [Array.length_toList]; omega
          rw [List.append_assoc, List.take_append_of_le_length (by rw [List.length_take]; omega), List.take_take, Nat.min_self]
      · have holds : ∀ j u, xs[j]? = some u → w.cell? ((⟨g', 0, none⟩ : Addr).add j) = some u := hown.cells (g := g') rfl
        have hr2 := run_append_grow (P := P) w t ty e i z ht hi hz ⟨g', 0, none⟩ n cap xs hown.1 holds ad m c news hl hnews (by omega) (by omega) (growslice_fits (by omega) hbytes)
        rw [hr] at hr2
        injection hr2 with hr2 hr3
        exact ⟨cur', by rw [hr3]; exact (heap_alloc_old w.drew _ (Array.getElem?_eq_some_iff.1 hg').1).trans hg', rfl, rfl⟩
theorem OwnInts.append_chg {w0 w : World} {gs : List GV} {u : Value} {l m : List Int} {A : Option Addr} {c : Nat} (ty : TypeId) (h0 : Ext w0 w) (h : OwnInts w w0.heap.size u l) (hin : InB gs u) (hv : IntsAt w (.slice A m.length c) m) (hlen : l.length + m.length ≤ 100000000) :
    ∃ u' w', (Builtin.append_ #[27, 27] ty #[u, .slice A m.length c]).run Try.prog w = .ok u' w' ∧ (∃ A' c', u' = .slice A' (l.length + m.length) c') ∧ OwnInts w' w0.heap.size u' (l ++ m) ∧ InB (⟨u', w.heap.size, w'.heap.size⟩ :: gs) u' ∧ ChgIn w0 l.length gs w w' := by
  obtain ⟨i0, I0, I1, I2, I3⟩ := info_parts Try.infoInt
  obtain ⟨A', c', hv', hA⟩ := hv
  simp only [Value.slice.injEq, true_and] at hv'
  obtain ⟨rfl, rfl⟩ := hv'
  obtain ⟨u', w', hr, ho, hg, hbb⟩ := own_append_chg (P := Try.prog) ty Try.underlying27 I0 I1 I2 I3 rfl (by decide) h0 h hin (A := A) (m := m.length) c (news := intsV m) (by simp [intsV]) (fun h0 => by
    obtain ⟨b, o, rfl, hb, hc⟩ := hA h0
    refine ⟨_, rfl, fun j x hj => ?_⟩
    rw [Addr.add_lit]
    simp only [intsV, List.getElem?_map, Option.map_eq_some_iff] at hj
    obtain ⟨y, hy, rfl⟩ := hj
    exact hc j y hy) (fun x hx => by
    obtain ⟨y, _, rfl⟩ := List.mem_map.1 hx
    rfl) (by unfold maxLen; omega) (by omega)
  have ho' : OwnInts w' w0.heap.size u' (l ++ m) := by unfold OwnInts; rw [List.length_append, intsV_append]; exact ho
  obtain ⟨A2, c2, e2, _⟩ := ho'.ints
  exact ⟨u', w', hr, ⟨A2, c2, by rw [e2, List.length_append]⟩, ho', hbb, by rwa [Nat.mul_one] at hg⟩
/-- An operation that appends comes to that. -/
theorem givesM_append {P : Program} {R : Value → World → Prop} {ρ : Operand → Value} {o : Oper} {w : World} (s x : Operand) (t : TypeId) (ho : o.op = .call { callee := .builtin .append, args := #[s, x], argTypes := #[t, t] }) (v xv : Value) (hs : ρ s = v) (hx : ρ x = xv) {v' : Value} {w' : World}
    (hr : (Builtin.append_ #[t, t] o.type #[v, xv]).run P w = .ok v' w') (h : R v' w') : GivesM P R ((execOp ρ o).run P w) := by
  unfold execOp
  simp only [ho, resolve, invoke, builtin, Sem.run_bind, Sem.run_pure, Result.andThen_ok, List.map_toArray, List.map_cons, List.map_nil, hs, hx, hr]
  exact ⟨h⟩
theorem InB.made {w : World} {n c : Nat} {w' : World} (h : w.heap.size < w'.heap.size) (u : Value) : InB [⟨u, w.heap.size, w'.heap.size⟩] (.slice (some ⟨w.heap.size, 0, none⟩) n c) := fun k hk => by
  simp only [Value.ownBlock, Option.some.injEq] at hk
  subst hk
  exact ⟨⟨u, w.heap.size, w'.heap.size⟩, by simp, Nat.le_refl _, h⟩
theorem InB.of_lt {v u : Value} {s t : Nat} (h : ∀ k, v.ownBlock = some k → s ≤ k ∧ k < t) : InB [⟨u, s, t⟩] v := fun k hk => ⟨⟨u, s, t⟩, by simp, h k hk⟩

/-- Numbers of a region's own, in blocks that those operations made. -/
def OwnG (w0 w : World) (v : Value) (xs : List Int) (gs : List GV) : Prop := OwnInts w w0.heap.size v xs ∧ InB gs v
theorem OwnG.ext {w0 w w' : World} {v : Value} {xs : List Int} {gs : List GV} (h : OwnG w0 w v xs gs) (hx : Ext w w') : OwnG w0 w' v xs gs := ⟨h.1.ext hx, h.2⟩
theorem OwnG.chg {w0 w w' : World} {v : Value} {xs : List Int} {gs hs : List GV} {n : Nat} (h : OwnG w0 w v xs gs) (hc : ChgIn w0 n hs w w') (hn : xs.length ≤ n) : OwnG w0 w' v xs gs := ⟨hc.owns h.1 (by omega), h.2⟩
theorem OwnG.far {w0 w w' : World} {v : Value} {xs : List Int} {gs hs : List GV} {n : Nat} (h : OwnG w0 w v xs gs) (hc : ChgIn w0 n hs w w') (hap : ∀ g ∈ hs, ∀ k ∈ gs, g.apart k) : OwnG w0 w' v xs gs := ⟨hc.ownsFar h.1 h.2 hap, h.2⟩
theorem OwnG.ints {w0 w : World} {A : Option Addr} {n c : Nat} {xs : List Int} {gs : List GV} (h : OwnG w0 w (.slice A n c) xs gs) : IntsAt w (.slice A xs.length c) xs := by
  obtain ⟨A', c', e, h'⟩ := h.1.ints
  simp only [Value.slice.injEq] at e
  obtain ⟨rfl, rfl, rfl⟩ := e
  exact h'
/-- An empty slice that is made. -/
theorem OwnG.made {w0 w : World} (h : Ext w0 w) (u : Value) : OwnG w0 (w.alloc (.cells #[] 3)) (.slice (some ⟨w.heap.size, 0, none⟩) 0 0) [] [⟨u, w.heap.size, (w.alloc (.cells #[] 3)).heap.size⟩] := by
  refine ⟨?_, InB.made (by simp) u⟩
  have := World.ownsRow_made (base := w0.heap.size) (e := 3) (size := 1) w #[] 0 h.size (by decide) rfl
  exact this

end Go.Proofs.Ytogcfndhcphpaaa
/-
  Slices whose cells lie in a given range of blocks; slices of slices of records. No function of the program is named.
-/
set_option linter.unusedVariables false
set_option linter.unusedSimpArgs false
namespace Go.Proofs.Ytogcfndhcphpaaa
open Go.RowKit

/-- Only blocks of S, and new ones, may have changed. -/
structure But (S : Nat → Prop) (w w' : World) : Prop where
  os : w'.os = w.os
  tape : w'.tape = w.tape
  output : w'.output = w.output
  size : w.heap.size ≤ w'.heap.size
  block : ∀ i, i < w.heap.size → ¬ S i → w'.heap[i]? = w.heap[i]?
section
variable {S T : Nat → Prop} {a b c : World}
theorem But.refl (S : Nat → Prop) (w : World) : But S w w := ⟨rfl, rfl, rfl, Nat.le_refl _, fun _ _ _ => rfl⟩
theorem But.trans (h : But S a b) (k : But S b c) : But S a c :=
  ⟨k.os.trans h.os, k.tape.trans h.tape, k.output.trans h.output, Nat.le_trans h.size k.size, fun i hi hn => (k.block i (Nat.lt_of_lt_of_le hi h.size) hn).trans (h.block i hi hn)⟩
theorem But.wide (h : But S a b) (hs : ∀ i, i < a.heap.size → S i → T i) : But T a b := ⟨h.os, h.tape, h.output, h.size, fun i hi hn => h.block i hi fun e => hn (hs i hi e)⟩
theorem But.ext (h : Ext a b) : But S a b := ⟨h.os, h.tape, h.output, h.size, fun i hi _ => h.block i hi⟩
theorem But.upd {g : Nat} (h : Upd g a b) (hg : S g) : But S a b := ⟨h.os, h.tape, h.output, h.size, fun i hi hn => h.block i hi fun e => hn (by injection e with e; subst e; exact hg)⟩
theorem But.after {w : World} (h : Ext w a) (k : But S a b) (hs : ∀ i, S i → w.heap.size ≤ i) : Ext w b :=
  ⟨k.os.trans h.os, k.tape.trans h.tape, k.output.trans h.output, Nat.le_trans h.size k.size, fun i hi => (k.block i (Nat.lt_of_lt_of_le hi h.size) fun e => by have := hs i e; omega).trans (h.block i hi)⟩
theorem But.blk {o : Obj} {i : Nat} (h : But S a b) (hb : a.heap[i]? = some o) (hn : ¬ S i) : b.heap[i]? = some o := (h.block i (blk_lt hb) hn).trans hb
theorem But.cell {i o : Nat} (h : But S a b) (hi : i < a.heap.size) (hn : ¬ S i) : b.cell? ⟨i, o, none⟩ = a.cell? ⟨i, o, none⟩ := World.cell?_of_block (h.block i hi hn)
end
/-- A slice of records, its cells in blocks from L on below H. -/
def RowsIn {α : Type} (L H m : Nat) (f : α → List Value) (w : World) (v : Value) (xs : List α) : Prop :=
  ∃ A c, v = .slice A xs.length c ∧ xs.length ≤ c ∧ (0 < xs.length → ∃ b o, A = some ⟨b, o, none⟩ ∧ L ≤ b ∧ b < H ∧ b < w.heap.size ∧ ∀ j x, xs[j]? = some x → ∀ i u, (f x)[i]? = some u → w.cell? ⟨b, o + j * m + i, none⟩ = some u)
section
variable {α : Type} {L H m : Nat} {f : α → List Value} {w w' : World} {v : Value} {xs : List α}
theorem RowsIn.rows (h : RowsIn L H m f w v xs) : RowsAt m f w v xs := by
  obtain ⟨A, c, rfl, hc, hA⟩ := h
  exact ⟨A, c, rfl, hc, fun h0 => by obtain ⟨b, o, h1, _, _, h2, h3⟩ := hA h0; exact ⟨b, o, h1, h2, h3⟩⟩
theorem RowsIn.but {S : Nat → Prop} (h : RowsIn L H m f w v xs) (k : But S w w') (hs : ∀ b, L ≤ b → b < H → ¬ S b) : RowsIn L H m f w' v xs := by
  obtain ⟨A, c, rfl, hc, hA⟩ := h
  refine ⟨A, c, rfl, hc, fun h0 => ?_⟩
  obtain ⟨b, o, h1, h2, h3, h4, h5⟩ := hA h0
  exact ⟨b, o, h1, h2, h3, Nat.lt_of_lt_of_le h4 k.size, fun j x hj i u hu => by rw [k.cell h4 (hs b h2 h3)]; exact h5 j x hj i u hu⟩
theorem RowsIn.ext (h : RowsIn L H m f w v xs) (k : Ext w w') : RowsIn L H m f w' v xs := h.but (S := fun _ => False) (But.ext k) fun _ _ _ h => h
theorem RowsIn.mono {L' H' : Nat} (h : RowsIn L H m f w v xs) (hl : L' ≤ L) (hh : H ≤ H') : RowsIn L' H' m f w v xs := by
  obtain ⟨A, c, rfl, hc, hA⟩ := h
  exact ⟨A, c, rfl, hc, fun h0 => by obtain ⟨b, o, h1, h2, h3, h4, h5⟩ := hA h0; exact ⟨b, o, h1, by omega, by omega, h4, h5⟩⟩
theorem RowsIn.nil (w : World) (A : Option Addr) (c : Nat) : RowsIn (α := α) L H m f w (.slice A 0 c) [] := ⟨A, c, rfl, Nat.zero_le _, fun h => by simp at h⟩
theorem OwnRows.rowsIn {e : TypeId} {B : Nat} (hf : ∀ x, (f x).length = m) (h : OwnRows e m f w B v xs) : RowsIn B w.heap.size m f w v xs := by
  obtain ⟨A, c, rfl, hc, hA⟩ := OwnRows.rows hf h
  refine ⟨A, c, rfl, hc, fun h0 => ?_⟩
  obtain ⟨b, o, rfl, h2, h3⟩ := hA h0
  have h1 : (Value.slice (some ⟨b, o, none⟩) xs.length c).ownBlock = some b := rfl
  exact ⟨b, o, rfl, (h.lt b h1).1, h2, h2, h3⟩
theorem RowsAt.cell {A : Option Addr} {n c : Nat} (h : RowsAt m f w (.slice A n c) xs) (hn : 0 < xs.length) : ∃ b o, A = some ⟨b, o, none⟩ ∧ b < w.heap.size ∧ ∀ j x, xs[j]? = some x → ∀ i u, (f x)[i]? = some u → w.cell? ⟨b, o + j * m + i, none⟩ = some u := by
  obtain ⟨A', c', hv, _, hA⟩ := h
  simp only [Value.slice.injEq] at hv
  obtain ⟨rfl, _, _⟩ := hv
  exact hA hn
theorem RowsAt.rowsIn (h : RowsAt m f w v xs) : RowsIn 0 w.heap.size m f w v xs := by
  obtain ⟨A, c, rfl, hc, hA⟩ := h
  exact ⟨A, c, rfl, hc, fun h0 => by obtain ⟨b, o, h1, h2, h3⟩ := hA h0; exact ⟨b, o, h1, Nat.zero_le _, h2, h2, h3⟩⟩
end
def oneL (v : Value) : List Value := [v]
/-- A slice of slices of records. -/
def NestAt {α : Type} (m : Nat) (f : α → List Value) (w : World) (v : Value) (xss : List (List α)) : Prop :=
  ∃ vs : List Value, vs.length = xss.length ∧ RowsAt 1 oneL w v vs ∧ ∀ (i : Nat) u xs, vs[i]? = some u → xss[i]? = some xs → RowsAt m f w u xs
def NestIn {α : Type} (L H m : Nat) (f : α → List Value) (w : World) (v : Value) (xss : List (List α)) : Prop :=
  ∃ vs : List Value, vs.length = xss.length ∧ RowsIn L H 1 oneL w v vs ∧ ∀ (i : Nat) u xs, vs[i]? = some u → xss[i]? = some xs → RowsIn L H m f w u xs
section
variable {α : Type} {L H m : Nat} {f : α → List Value} {w w' : World} {v : Value} {xss : List (List α)}
theorem NestAt.ext (h : NestAt m f w v xss) (k : Ext w w') : NestAt m f w' v xss := by
  obtain ⟨vs, h1, h2, h3⟩ := h
  exact ⟨vs, h1, h2.ext k, fun i u xs a b => (h3 i u xs a b).ext k⟩
theorem NestIn.nest (h : NestIn L H m f w v xss) : NestAt m f w v xss := by
  obtain ⟨vs, h1, h2, h3⟩ := h
  exact ⟨vs, h1, h2.rows, fun i u xs a b => (h3 i u xs a b).rows⟩
theorem NestIn.but {S : Nat → Prop} (h : NestIn L H m f w v xss) (k : But S w w') (hs : ∀ b, L ≤ b → b < H → ¬ S b) : NestIn L H m f w' v xss := by
  obtain ⟨vs, h1, h2, h3⟩ := h
  exact ⟨vs, h1, h2.but k hs, fun i u xs a b => (h3 i u xs a b).but k hs⟩
theorem NestIn.ext (h : NestIn L H m f w v xss) (k : Ext w w') : NestIn L H m f w' v xss := h.but (S := fun _ => False) (But.ext k) fun _ _ _ h => h
theorem NestAt.form (h : NestAt m f w v xss) : ∃ A c, v = .slice A xss.length c ∧ xss.length ≤ c := by
  obtain ⟨vs, h1, h2, _⟩ := h
  rw [← h1]; exact h2.form
/-- One of the inner slices. -/
theorem NestAt.one {A : Option Addr} {n c : Nat} (h : NestAt m f w (.slice A n c) xss) {i : Nat} {xs : List α} (hi : xss[i]? = some xs) : ∃ b o u, A = some ⟨b, o, none⟩ ∧ b < w.heap.size ∧ w.cell? ⟨b, o + i, none⟩ = some u ∧ RowsAt m f w u xs := by
  obtain ⟨vs, h1, h2, h3⟩ := h
  have hl : i < xss.length := (List.getElem?_eq_some_iff.1 hi).1
  have hv : vs[i]? = some vs[i] := List.getElem?_eq_getElem (by omega)
  obtain ⟨b, o, hA, hb, hc⟩ := h2.cell (by omega)
  have := hc i _ hv 0 _ rfl
  rw [Nat.mul_one, Nat.add_zero] at this
  exact ⟨b, o, _, hA, hb, this, h3 i _ xs hv hi⟩
end

end Go.Proofs.Ytogcfndhcphpaaa
/-
  Whole structs read from a box and stored into one, in one step. No function of the program is named.
-/
set_option linter.unusedVariables false
set_option linter.unusedSimpArgs false
namespace Go.Proofs.Ytogcfndhcphpaaa
open Go.RowKit

theorem setCells_upd (g : Nat) : ∀ (ds : List Value) (w : World) (i : Nat), Upd g w (w.setCells g i ds)
  | [], w, _ => Upd.refl g w
  | d :: ds, w, i => ((Upd.refl g w).set i d).trans (setCells_upd g ds _ (i + 1))
theorem setCells_blk {g : Nat} {T : TypeId} : ∀ (ds : List Value) {w : World} (pre rest : List Value), rest.length = ds.length → w.heap[g]? = some (.cells (pre ++ rest).toArray T (0, 0)) → (w.setCells g pre.length ds).heap[g]? = some (.cells (pre ++ ds).toArray T (0, 0))
  | [], w, pre, rest, hl, h => by
    have : rest = [] := List.eq_nil_of_length_eq_zero hl
    subst this
    exact h
  | d :: ds, w, pre, [], hl, h => by simp at hl
  | d :: ds, w, pre, r :: rest, hl, h => by
    have h1 := blk_set h pre.length d
    have e : (pre ++ r :: rest).toArray.setIfInBounds pre.length d = ((pre ++ [d]) ++ rest).toArray := by
      apply Array.ext'
      simp [List.set_append]
    rw [e] at h1
    have h2 := setCells_blk ds (pre ++ [d]) rest (by simpa using hl) h1
    simp only [List.length_append, List.length_singleton, List.append_assoc, List.singleton_append] at h2
    exact h2
/-- A block of as many cells, all stored. -/
theorem setCells_at {g : Nat} {T : TypeId} {w : World} (cs ds : List Value) (hl : cs.length = ds.length) (h : w.heap[g]? = some (.cells cs.toArray T (0, 0))) : (w.setCells g 0 ds).heap[g]? = some (.cells ds.toArray T (0, 0)) := setCells_blk ds [] cs hl h
theorem there_row {w : World} {g n : Nat} {T : TypeId} {cs : Array Value} (h : w.heap[g]? = some (.cells cs T (0, 0))) (hn : n ≤ cs.size) : w.there g 0 n := fun j hj => by
  rw [Nat.zero_add]
  refine ⟨?_, frozen_of_row _ _ j _ _ h⟩
  rw [blk_cell h j _ (Array.getElem?_eq_getElem (by omega))]
  rfl
theorem range_row {w : World} {g : Nat} {T : TypeId} {cs : List Value} {fr : Nat × Nat} (h : w.heap[g]? = some (.cells cs.toArray T fr)) : w.rangeAt g 0 cs := fun j v hv => by
  rw [Nat.zero_add]
  exact blk_cell h j v (by simpa using hv)
section
variable {P : Program}
theorem wpList_store_row {ops : Array Oper} {rest : List Oper} {op : Oper} {a : Act} {w : World} {Q : Exit → Act → World → Prop} (hgd : op.guard = none) (ty : TypeId) (x y : Operand) (ho : op.op = .store ty x y)
    (b : Nat) (ds : List Value) (v : Value) (hx : a.eval x = .pointer (some ⟨b, 0, none⟩)) (hy : a.eval y = v) (hv : v = .agg ds.toArray) (ht : w.there b 0 ds.length) (hi : (P.info? ty).map (·.size) = some ds.length) (h1 : ∀ u ∈ ds, u.oneCell' = true)
    {w' : World} (hw : w.setCells b 0 ds = w') (h : wpList P ops Q rest (a.put op.dst undef) w') : wpList P ops Q (op :: rest) a w := by
  subst hv hw
  exact wpList_store_mid hgd ty x y ho b 0 ds.toArray hx hy (by simpa using ht) (by simpa using hi) (all_oneCell_toArray h1) (by simpa using h)
/-- The same, at an operation that may be guarded. -/
theorem wpList_load_rowW {ops : Array Oper} {rest : List Oper} {op : Oper} {a : Act} {w : World} {Q : Exit → Act → World → Prop} (hw : Region.wanted op (yielded ops a.tmps) = true) (ty : TypeId) (x : Operand) (ho : op.op = .load ty x)
    (b : Nat) (hx : a.eval x = .pointer (some ⟨b, 0, none⟩)) (cs : List Value) (v : Value) (hv : v = .agg cs.toArray) (d : TypeDesc) (hc : w.rangeAt b 0 cs) (hu : P.underlying ty = some d) (hd : d.isRow = true) (hi : (P.info? ty).map (·.size) = some cs.length)
    (h : wpList P ops Q rest (a.put op.dst v) w) : wpList P ops Q (op :: rest) a w := by
  subst hv
  unfold wpList
  rw [if_pos hw]
  left
  unfold Oper.wp execOp
  simp only [ho, hx, Sem.run_bind, run_loadAt_mid w b 0 ty cs d hc hu hd hi, Sem.run_pure, Result.andThen_ok]
  exact h
theorem givesP_loadM {o : Oper} {a : Act} {w : World} (ty : TypeId) (x : Operand) (ho : o.op = .load ty x) (b off : Nat) (hx : a.eval x = .pointer (some ⟨b, off, none⟩)) (cs : List Value) (v : Value) (hv : v = .agg cs.toArray) (d : TypeDesc)
    (hc : w.rangeAt b off cs) (hu : P.underlying ty = some d) (hd : d.isRow = true) (hi : (P.info? ty).map (·.size) = some cs.length) : GivesP v w ((execOp a.eval o).run P w) := by
  subst hv
  refine ⟨?_⟩
  unfold execOp
  simp only [ho, hx, Sem.run_bind, run_loadAt_mid w b off ty cs d hc hu hd hi, Sem.run_pure, Result.andThen_ok]
  exact ⟨rfl, rfl⟩
theorem wpList_load_rowM {ops : Array Oper} {rest : List Oper} {op : Oper} {a : Act} {w : World} {Q : Exit → Act → World → Prop} (hw : Region.wanted op (yielded ops a.tmps) = true) (ty : TypeId) (x : Operand) (ho : op.op = .load ty x)
    (b off : Nat) (hx : a.eval x = .pointer (some ⟨b, off, none⟩)) (cs : List Value) (v : Value) (hv : v = .agg cs.toArray) (d : TypeDesc) (hc : w.rangeAt b off cs) (hu : P.underlying ty = some d) (hd : d.isRow = true) (hi : (P.info? ty).map (·.size) = some cs.length)
    (h : wpList P ops Q rest (a.put op.dst v) w) : wpList P ops Q (op :: rest) a w := by
  subst hv
  unfold wpList
  rw [if_pos hw]
  left
  unfold Oper.wp execOp
  simp only [ho, hx, Sem.run_bind, run_loadAt_mid w b off ty cs d hc hu hd hi, Sem.run_pure, Result.andThen_ok]
  exact h
theorem givesM_store {R : Value → World → Prop} {o : Oper} {a : Act} {w : World} (ty : TypeId) (x y : Operand) (ho : o.op = .store ty x y) (b off : Nat) (hx : a.eval x = .pointer (some ⟨b, off, none⟩)) (ds : List Value) (hy : a.eval y = .agg ds.toArray)
    (ht : w.there b off ds.length) (hi : (P.info? ty).map (·.size) = some ds.length) (h1 : ∀ u ∈ ds, u.oneCell' = true) (hR : R undef (w.setCells b off ds)) : GivesM P R ((execOp a.eval o).run P w) := by
  refine ⟨?_⟩
  unfold execOp
  simp only [ho, hx, hy, Instr.storeAt, Instr.sureAddr, Sem.run_bind, Sem.run_pure, Result.andThen_ok, run_storeVar_mid w b off ty ds.toArray (by simpa using ht) (by simpa using hi) (all_oneCell_toArray h1)]
  exact hR
theorem bodyPost_cell_tmp {fn : Func} {p u : Tmp} {ty : TypeId} {a : Act} {w : World} {Q : Ending → World → Prop} (h : fn.results = #[.cell p ty, .tmp u]) (g : Nat) (t : TypeId) (cs : Array Value) (fr : Nat × Nat) (d : TypeDesc)
    (hp : a.tmps.getD p undef = .pointer (some ⟨g, 0, none⟩)) (hg : w.heap[g]? = some (.cells cs t fr)) (hu : P.underlying ty = some d) (hd : (match d with | .struct _ | .array _ _ => true | _ => false) = true) (hi : (P.info? ty).map (·.size) = some cs.size) (x : Value) (hx : a.tmps.getD u undef = x) (hdf : a.defers = [])
    (hQ : Q (.returned (.tuple #[.agg cs, x])) w) : bodyPost P fn Q .ret a w := by
  subst hx
  refine bodyPost_ret (v := .tuple #[.agg cs, a.tmps.getD u undef]) ?_ hdf hQ
  rw [results_cell_tmp h, hp]
  simp only [asAddr, Sem.run_pure, Result.andThen_ok, run_loadVar_row w g t ty cs fr d hg hu hd hi]
theorem givesP_load {o : Oper} {a : Act} {w : World} (ty : TypeId) (x : Operand) (ho : o.op = .load ty x) (b : Nat) (hx : a.eval x = .pointer (some ⟨b, 0, none⟩)) (cs : List Value) (v : Value) (hv : v = .agg cs.toArray) (d : TypeDesc)
    (hc : w.rangeAt b 0 cs) (hu : P.underlying ty = some d) (hd : d.isRow = true) (hi : (P.info? ty).map (·.size) = some cs.length) : GivesP v w ((execOp a.eval o).run P w) := by
  subst hv
  refine ⟨?_⟩
  unfold execOp
  simp only [ho, hx, Sem.run_bind, run_loadAt_mid w b 0 ty cs d hc hu hd hi, Sem.run_pure, Result.andThen_ok]
  exact ⟨rfl, rfl⟩
end
end Go.Proofs.Ytogcfndhcphpaaa
/-
  States in memory.
-/
set_option linter.unusedVariables false
set_option linter.unusedSimpArgs false
namespace Go.Proofs.Ytogcfndhcphpaaa
open Go.RowKit

theorem RowsAt.get {α : Type} {m : Nat} {f : α → List Value} {w : World} {A : Option Addr} {n c : Nat} {xs : List α} (h : RowsAt m f w (.slice A n c) xs) {k : Nat} {x : α} (hk : xs[k]? = some x) :
    ∃ b o, A = some ⟨b, o, none⟩ ∧ b < w.heap.size ∧ ∀ i u, (f x)[i]? = some u → w.cell? ⟨b, o + k * m + i, none⟩ = some u := by
  obtain ⟨b, o, hA, hb, hc⟩ := h.cell (by have := (List.getElem?_eq_some_iff.1 hk).1; omega)
  exact ⟨b, o, hA, hb, fun i u hu => hc k x hk i u hu⟩
def gL (g : Gr) : List Value := [.int .i64 g.func, .int .i64 g.pc, .int .i64 g.st, .int .i64 g.m, .int .i64 g.seq]
theorem gL_len (g : Gr) : (gL g).length = 5 := rfl
theorem gL_one (g : Gr) : ∀ u ∈ gL g, u.oneCell' = true := by intro u hu; simp [gL] at hu; rcases hu with rfl | rfl | rfl | rfl | rfl <;> rfl
/-- A P whose buffer has eight cells. -/
structure P8 (p : Pr) (b0 b1 b2 b3 b4 b5 b6 b7 : Int) : Prop where
  buf : p.ring.buf = [b0, b1, b2, b3, b4, b5, b6, b7]
def pL (p : Pr) : List Value := [.int .i64 p.m, .int .i64 p.next] ++ ((p.ring.buf ++ List.replicate 8 0).take 8).map (Value.int .i64) ++ [.int .i64 p.ring.head, .int .i64 p.ring.n, .int .i64 p.seq]
theorem pL_len (p : Pr) : (pL p).length = 13 := by simp [pL]
theorem pL_one (p : Pr) : ∀ u ∈ pL p, u.oneCell' = true := by
  intro u hu
  simp only [pL, List.mem_append, List.mem_map, List.mem_cons, List.not_mem_nil, or_false] at hu
  rcases hu with ((rfl | rfl) | ⟨x, _, rfl⟩) | (rfl | rfl | rfl) <;> rfl
theorem frs2_get {w : World} {A : Option Addr} {n c : Nat} {l : List (Int × Int)} (h : RowsAt 2 pairL w (.slice A n c) l) {k : Nat} {f : Int × Int} (hk : l[k]? = some f) :
    ∃ b o, A = some ⟨b, o, none⟩ ∧ b < w.heap.size ∧ w.cell? ⟨b, o + k * 2, none⟩ = some (.int .i64 f.1) ∧ w.cell? ⟨b, o + k * 2 + 1, none⟩ = some (.int .i64 f.2) := by
  obtain ⟨b, o, hA, hb, hc⟩ := h.get hk
  exact ⟨b, o, hA, hb, by have := hc 0 _ rfl; rwa [Nat.add_zero] at this, hc 1 _ rfl⟩
theorem gs_get {w : World} {A : Option Addr} {n c : Nat} {l : List Gr} (h : RowsAt 5 gL w (.slice A n c) l) {k : Nat} {g : Gr} (hk : l[k]? = some g) :
    ∃ b o, A = some ⟨b, o, none⟩ ∧ b < w.heap.size ∧ (w.cell? ⟨b, o + k * 5, none⟩ = some (.int .i64 g.func) ∧ w.cell? ⟨b, o + k * 5 + 1, none⟩ = some (.int .i64 g.pc) ∧ w.cell? ⟨b, o + k * 5 + 2, none⟩ = some (.int .i64 g.st) ∧ w.cell? ⟨b, o + k * 5 + 3, none⟩ = some (.int .i64 g.m) ∧ w.cell? ⟨b, o + k * 5 + 4, none⟩ = some (.int .i64 g.seq)) := by
  obtain ⟨b, o, hA, hb, hc⟩ := h.get hk
  exact ⟨b, o, hA, hb, by have := hc 0 _ rfl; rwa [Nat.add_zero] at this, hc 1 _ rfl, hc 2 _ rfl, hc 3 _ rfl, hc 4 _ rfl⟩
theorem ps_get {w : World} {A : Option Addr} {n c : Nat} {l : List Pr} (h : RowsAt 13 pL w (.slice A n c) l) {k : Nat} {m nx b0 b1 b2 b3 b4 b5 b6 b7 hd nn sq : Int} (hk : l[k]? = some ⟨m, nx, ⟨[b0, b1, b2, b3, b4, b5, b6, b7], hd, nn⟩, sq⟩) :
    ∃ b o, A = some ⟨b, o, none⟩ ∧ b < w.heap.size ∧ ((w.cell? ⟨b, o + k * 13, none⟩ = some (.int .i64 m) ∧ w.cell? ⟨b, o + k * 13 + 1, none⟩ = some (.int .i64 nx) ∧ w.cell? ⟨b, o + k * 13 + 2, none⟩ = some (.int .i64 b0) ∧ w.cell? ⟨b, o + k * 13 + 3, none⟩ = some (.int .i64 b1) ∧ w.cell? ⟨b, o + k * 13 + 4, none⟩ = some (.int .i64 b2) ∧ w.cell? ⟨b, o + k * 13 + 5, none⟩ = some (.int .i64 b3) ∧ w.cell? ⟨b, o + k * 13 + 6, none⟩ = some (.int .i64 b4)) ∧
      w.cell? ⟨b, o + k * 13 + 7, none⟩ = some (.int .i64 b5) ∧ w.cell? ⟨b, o + k * 13 + 8, none⟩ = some (.int .i64 b6) ∧ w.cell? ⟨b, o + k * 13 + 9, none⟩ = some (.int .i64 b7) ∧ w.cell? ⟨b, o + k * 13 + 10, none⟩ = some (.int .i64 hd) ∧ w.cell? ⟨b, o + k * 13 + 11, none⟩ = some (.int .i64 nn) ∧ w.cell? ⟨b, o + k * 13 + 12, none⟩ = some (.int .i64 sq)) := by
  obtain ⟨b, o, hA, hb, hc⟩ := h.get hk
  exact ⟨b, o, hA, hb, ⟨by have := hc 0 _ rfl; rwa [Nat.add_zero] at this, hc 1 _ rfl, hc 2 _ rfl, hc 3 _ rfl, hc 4 _ rfl, hc 5 _ rfl, hc 6 _ rfl⟩, hc 7 _ rfl, hc 8 _ rfl, hc 9 _ rfl, hc 10 _ rfl, hc 11 _ rfl, hc 12 _ rfl⟩
/-- Where the lists of a state lie. -/
structure StH where
  pa : Option Addr
  pc : Nat
  ga : Option Addr
  gc : Nat
  qa : Option Addr
  qc : Nat
  ma : Option Addr
  mc : Nat
  la : Option Addr
  lc : Nat
  a0 : Option Addr
  k0 : Nat
  a1 : Option Addr
  k1 : Nat
  a2 : Option Addr
  k2 : Nat
  a3 : Option Addr
  k3 : Nat
  ta : Option Addr
  tc : Nat
structure StOk (w : World) (h : StH) (s : St) : Prop where
  prog : NestAt 2 pairL w (.slice h.pa s.prog.length h.pc) s.prog
  gs : RowsAt 5 gL w (.slice h.ga s.gs.length h.gc) s.gs
  ps : RowsAt 13 pL w (.slice h.qa s.ps.length h.qc) s.ps
  ms : RowsAt 2 pairL w (.slice h.ma s.ms.length h.mc) s.ms
  glob : IntsAt w (.slice h.la s.glob.length h.lc) s.glob
  w0 : IntsAt w (.slice h.a0 s.w0.length h.k0) s.w0
  w1 : IntsAt w (.slice h.a1 s.w1.length h.k1) s.w1
  w2 : IntsAt w (.slice h.a2 s.w2.length h.k2) s.w2
  w3 : IntsAt w (.slice h.a3 s.w3.length h.k3) s.w3
  timers : PairsAt w (.slice h.ta s.timers.length h.tc) s.timers
  buf : ∀ p ∈ s.ps, p.ring.buf.length = 8
theorem StOk.ext {w w' : World} {h : StH} {s : St} (k : StOk w h s) (hx : Ext w w') : StOk w' h s :=
  ⟨k.prog.ext hx, k.gs.ext hx, k.ps.ext hx, k.ms.ext hx, k.glob.ext hx, k.w0.ext hx, k.w1.ext hx, k.w2.ext hx, k.w3.ext hx, k.timers.ext hx, k.buf⟩
def stV (h : StH) (s : St) : Value := .agg #[.slice h.pa s.prog.length h.pc, .slice h.ga s.gs.length h.gc, .slice h.qa s.ps.length h.qc, .slice h.ma s.ms.length h.mc, .slice h.la s.glob.length h.lc, .int .i64 s.c0, .int .i64 s.c1, .int .i64 s.c2, .int .i64 s.c3, .slice h.a0 s.w0.length h.k0, .slice h.a1 s.w1.length h.k1, .slice h.a2 s.w2.length h.k2, .slice h.a3 s.w3.length h.k3, .slice h.ta s.timers.length h.tc, .int .i64 s.clock, .int .i64 s.procs]
def StAt (w : World) (v : Value) (s : St) : Prop := ∃ h, v = stV h s ∧ StOk w h s
theorem StAt.ext {w w' : World} {v : Value} {s : St} (k : StAt w v s) (hx : Ext w w') : StAt w' v s := by
  obtain ⟨h, rfl, hk⟩ := k
  exact ⟨h, rfl, hk.ext hx⟩
def stL (h : StH) (s : St) : List Value := [.slice h.pa s.prog.length h.pc, .slice h.ga s.gs.length h.gc, .slice h.qa s.ps.length h.qc, .slice h.ma s.ms.length h.mc, .slice h.la s.glob.length h.lc, .int .i64 s.c0, .int .i64 s.c1, .int .i64 s.c2, .int .i64 s.c3, .slice h.a0 s.w0.length h.k0, .slice h.a1 s.w1.length h.k1, .slice h.a2 s.w2.length h.k2, .slice h.a3 s.w3.length h.k3, .slice h.ta s.timers.length h.tc, .int .i64 s.clock, .int .i64 s.procs]
def stC (h : StH) (s : St) : Array Value := #[.slice h.pa s.prog.length h.pc, .slice h.ga s.gs.length h.gc, .slice h.qa s.ps.length h.qc, .slice h.ma s.ms.length h.mc, .slice h.la s.glob.length h.lc, .int .i64 s.c0, .int .i64 s.c1, .int .i64 s.c2, .int .i64 s.c3, .slice h.a0 s.w0.length h.k0, .slice h.a1 s.w1.length h.k1, .slice h.a2 s.w2.length h.k2, .slice h.a3 s.w3.length h.k3, .slice h.ta s.timers.length h.tc, .int .i64 s.clock, .int .i64 s.procs]
def St.wts (s : St) : List (List Int) := [s.w0, s.w1, s.w2, s.w3]
def St.cnts (s : St) : List Int := [s.c0, s.c1, s.c2, s.c3]
theorem StOk.wait {w : World} {h : StH} {s : St} (k : StOk w h s) {i : Nat} (hi : i < 4) : ∃ A c l, (stC h s)[9 + i]? = some (.slice A l.length c) ∧ IntsAt w (.slice A l.length c) l ∧ s.wts[i]? = some l := by
  obtain rfl | rfl | rfl | rfl : i = 0 ∨ i = 1 ∨ i = 2 ∨ i = 3 := by omega
  · exact ⟨_, _, _, rfl, k.w0, rfl⟩
  · exact ⟨_, _, _, rfl, k.w1, rfl⟩
  · exact ⟨_, _, _, rfl, k.w2, rfl⟩
  · exact ⟨_, _, _, rfl, k.w3, rfl⟩
theorem stC_cnt {h : StH} {s : St} {i : Nat} (hi : i < 4) : ∃ c, (stC h s)[5 + i]? = some (.int .i64 c) ∧ s.cnts[i]? = some c := by
  obtain rfl | rfl | rfl | rfl : i = 0 ∨ i = 1 ∨ i = 2 ∨ i = 3 := by omega
  · exact ⟨_, rfl, rfl⟩
  · exact ⟨_, rfl, rfl⟩
  · exact ⟨_, rfl, rfl⟩
  · exact ⟨_, rfl, rfl⟩
theorem wts_few {s : St} (hf : s.w0.length ≤ 100000 ∧ s.w1.length ≤ 100000 ∧ s.w2.length ≤ 100000 ∧ s.w3.length ≤ 100000) {i : Nat} {l : List Int} (hl : s.wts[i]? = some l) : l.length ≤ 100000 := by
  have := List.mem_of_getElem? hl
  simp only [St.wts, List.mem_cons, List.not_mem_nil, or_false] at this
  obtain ⟨a, b, c, d⟩ := hf
  rcases this with rfl | rfl | rfl | rfl <;> assumption
section
variable {v : World} {b : Nat} {h : StH} {s : St} {T : TypeId}
theorem st0 (hb : v.heap[b]? = some (.cells (stC h s) T (0, 0))) : v.cell? ⟨b, 0, none⟩ = some (.slice h.pa s.prog.length h.pc) := blk_cell hb 0 _ rfl
theorem st1 (hb : v.heap[b]? = some (.cells (stC h s) T (0, 0))) : v.cell? ⟨b, 1, none⟩ = some (.slice h.ga s.gs.length h.gc) := blk_cell hb 1 _ rfl
theorem st2 (hb : v.heap[b]? = some (.cells (stC h s) T (0, 0))) : v.cell? ⟨b, 2, none⟩ = some (.slice h.qa s.ps.length h.qc) := blk_cell hb 2 _ rfl
theorem st3 (hb : v.heap[b]? = some (.cells (stC h s) T (0, 0))) : v.cell? ⟨b, 3, none⟩ = some (.slice h.ma s.ms.length h.mc) := blk_cell hb 3 _ rfl
theorem st4 (hb : v.heap[b]? = some (.cells (stC h s) T (0, 0))) : v.cell? ⟨b, 4, none⟩ = some (.slice h.la s.glob.length h.lc) := blk_cell hb 4 _ rfl
theorem st5 (hb : v.heap[b]? = some (.cells (stC h s) T (0, 0))) : v.cell? ⟨b, 5, none⟩ = some (.int .i64 s.c0) := blk_cell hb 5 _ rfl
theorem st6 (hb : v.heap[b]? = some (.cells (stC h s) T (0, 0))) : v.cell? ⟨b, 6, none⟩ = some (.int .i64 s.c1) := blk_cell hb 6 _ rfl
theorem st7 (hb : v.heap[b]? = some (.cells (stC h s) T (0, 0))) : v.cell? ⟨b, 7, none⟩ = some (.int .i64 s.c2) := blk_cell hb 7 _ rfl
theorem st8 (hb : v.heap[b]? = some (.cells (stC h s) T (0, 0))) : v.cell? ⟨b, 8, none⟩ = some (.int .i64 s.c3) := blk_cell hb 8 _ rfl
theorem st9 (hb : v.heap[b]? = some (.cells (stC h s) T (0, 0))) : v.cell? ⟨b, 9, none⟩ = some (.slice h.a0 s.w0.length h.k0) := blk_cell hb 9 _ rfl
theorem st10 (hb : v.heap[b]? = some (.cells (stC h s) T (0, 0))) : v.cell? ⟨b, 10, none⟩ = some (.slice h.a1 s.w1.length h.k1) := blk_cell hb 10 _ rfl
theorem st11 (hb : v.heap[b]? = some (.cells (stC h s) T (0, 0))) : v.cell? ⟨b, 11, none⟩ = some (.slice h.a2 s.w2.length h.k2) := blk_cell hb 11 _ rfl
theorem st12 (hb : v.heap[b]? = some (.cells (stC h s) T (0, 0))) : v.cell? ⟨b, 12, none⟩ = some (.slice h.a3 s.w3.length h.k3) := blk_cell hb 12 _ rfl
theorem st13 (hb : v.heap[b]? = some (.cells (stC h s) T (0, 0))) : v.cell? ⟨b, 13, none⟩ = some (.slice h.ta s.timers.length h.tc) := blk_cell hb 13 _ rfl
theorem st14 (hb : v.heap[b]? = some (.cells (stC h s) T (0, 0))) : v.cell? ⟨b, 14, none⟩ = some (.int .i64 s.clock) := blk_cell hb 14 _ rfl
theorem st15 (hb : v.heap[b]? = some (.cells (stC h s) T (0, 0))) : v.cell? ⟨b, 15, none⟩ = some (.int .i64 s.procs) := blk_cell hb 15 _ rfl
end
/-- What is few enough for all sums. -/
structure StFew (s : St) : Prop where
  prog : s.prog.length ≤ 100000 ∧ ∀ l ∈ s.prog, l.length ≤ 100000
  gs : s.gs.length ≤ 100000
  ps : s.ps.length ≤ 100000
  ms : s.ms.length ≤ 100000
  glob : s.glob.length ≤ 100000
  w : s.w0.length ≤ 100000 ∧ s.w1.length ≤ 100000 ∧ s.w2.length ≤ 100000 ∧ s.w3.length ≤ 100000
  timers : s.timers.length ≤ 100000
  tnum : ∀ p ∈ s.timers, i64ok p.1 ∧ i64ok p.2
/-- Blocks that were there read as before. -/
theorem bcell {W w1 : World} (hb : Ext W w1) : (∀ b o, b < W.heap.size → w1.cell? ⟨b, o, none⟩ = W.cell? ⟨b, o, none⟩) := fun b o h => Below.cell (p := ⟨b, o, none⟩) hb h
end Go.Proofs.Ytogcfndhcphpaaa
/-
  The walk of the statement RingOf.
-/
set_option linter.unusedVariables false
set_option linter.unusedSimpArgs false
namespace Go.Proofs.Ytogcfndhcphpaaa
open Go.RowKit
end Go.Proofs.Ytogcfndhcphpaaa
/-
  The contracts of the document's May and List (layer 9).
-/
set_option linter.unusedVariables false
set_option linter.unusedSimpArgs false
namespace Go.Proofs.Ytogcfndhcphpaaa
open Go.RowKit
set_option maxRecDepth 100000 in
set_option maxHeartbeats 1000000 in
theorem rrmay_out (b0 b1 b2 b3 b4 b5 b6 b7 hd nn : Int) (w : World) (h : hd < 0 ∨ (0 ≤ hd ∧ (7 < hd ∨ (hd ≤ 7 ∧ (nn < 0 ∨ (0 ≤ nn ∧ 8 < nn)))))) :
    Calls Try.prog 70 #[.agg #[.int .i64 b0, .int .i64 b1, .int .i64 b2, .int .i64 b3, .int .i64 b4, .int .i64 b5, .int .i64 b6, .int .i64 b7, .int .i64 hd, .int .i64 nn]] w fun e w' => e = .returned (.bool false) ∧ Ext w w' := by
  rcases h with h | ⟨h1, h | ⟨h2, h | ⟨h3, h⟩⟩⟩
  all_goals
    go_enter Try.func70, Try.ntmps70
    go_wp2
    go_ret
    exact ⟨rfl, (Ext.refl w).alloc _⟩
set_option maxRecDepth 100000 in
set_option maxHeartbeats 1000000 in
theorem rrmay_in (b0 b1 b2 b3 b4 b5 b6 b7 : Int) (hd nn : Nat) (hhd : hd < 8) (hnn : nn ≤ 8) (m : Bool) (hm : Ri.may ⟨[b0, b1, b2, b3, b4, b5, b6, b7], hd, nn⟩ = m) (w : World) :
    Calls Try.prog 70 #[.agg #[.int .i64 b0, .int .i64 b1, .int .i64 b2, .int .i64 b3, .int .i64 b4, .int .i64 b5, .int .i64 b6, .int .i64 b7, .int .i64 (hd : Int), .int .i64 (nn : Int)]] w fun e w' => e = .returned (.bool m) ∧ Ext w w' := by
  have hmi := Ri.may_nat hhd hnn (bs := [b0, b1, b2, b3, b4, b5, b6, b7])
  rw [hm] at hmi
  have HMI := Lib.hid hmi
  clear hmi hm
  have i0 : (0 : Int) ≤ (hd : Int) := by omega
  have i1 : (hd : Int) ≤ 7 := by omega
  have i2 : (0 : Int) ≤ (nn : Int) := by omega
  have i3 : (nn : Int) ≤ 8 := by omega
  have HB := Lib.hid (blk_new w (.cells #[.int .i64 b0, .int .i64 b1, .int .i64 b2, .int .i64 b3, .int .i64 b4, .int .i64 b5, .int .i64 b6, .int .i64 b7, .int .i64 (hd : Int), .int .i64 (nn : Int)] 38))
  go_enter Try.func70, Try.ntmps70
  go_wp2
  go_loop [3] (fun iv => ∃ k : Nat, k ≤ 8 ∧ iv = .int .i64 k ∧ Hid (∀ j < k, if (j + 8 - hd) % 8 < nn then 0 < ([b0, b1, b2, b3, b4, b5, b6, b7])[j]?.getD 0 else ([b0, b1, b2, b3, b4, b5, b6, b7])[j]?.getD 0 = 0)) (fun iv => 8 - (intOf iv).toNat)
  case atStart => exact ⟨0, by omega, rfl, Lib.hid fun j hj => by omega⟩
  case round =>
    obtain ⟨k, hk, rfl, HK⟩ := hrel
    by_cases hlt : k < 8
    · have e1 : IntKind.i64.wrap ((k : Int) - (hd : Int)) = (k : Int) - (hd : Int) := IntWalk.i64_in _ (by omega)
      have e2 : IntKind.i64.wrap ((k : Int) - (hd : Int) + 8) = ((k + 8 - hd : Nat) : Int) := by rw [IntWalk.i64_in _ (by omega)]; omega
      obtain ⟨q, hq⟩ : ∃ q, (k + 8 - hd) % 8 = q := ⟨_, rfl⟩
      have e3 : ((k + 8 - hd : Nat) : Int).tmod 8 = (q : Int) := by rw [Int.tmod_eq_emod_of_nonneg (by omega)]; omega
      have e4 : ((k + 8 - hd : Nat) : Int) % 8 = (q : Int) := by omega
      have e5 : IntKind.i64.wrap (q : Int) = (q : Int) := IntWalk.i64_in _ (by omega)
      have pj := blk_cell HB.out k _ (Ri.cells_buf (r := ⟨[b0, b1, b2, b3, b4, b5, b6, b7], hd, nn⟩) rfl k hlt)
      simp only at pj
      obtain ⟨x, hx⟩ : ∃ x, ([b0, b1, b2, b3, b4, b5, b6, b7])[k]?.getD 0 = x := ⟨_, rfl⟩
      rw [hx] at pj
      have HXX := Lib.hid hx
      clear hx
      have HNX : Hid (∀ j < k + 1, (j = k → if (k + 8 - hd) % 8 < nn then 0 < x else x = 0) → if (j + 8 - hd) % 8 < nn then 0 < ([b0, b1, b2, b3, b4, b5, b6, b7])[j]?.getD 0 else ([b0, b1, b2, b3, b4, b5, b6, b7])[j]?.getD 0 = 0) := Lib.hid fun j hj hjk => by
        by_cases he : j = k
        · subst he; rw [HXX.out]; exact hjk rfl
        · exact HK.out j (by omega)
      have HBAD : Hid (¬ (if (k + 8 - hd) % 8 < nn then 0 < x else x = 0) → m = false) := Lib.hid fun hn => by
        cases m with
        | false => rfl
        | true => exact absurd (by have := HMI.out.1 rfl k hlt; rw [HXX.out] at this; exact this) hn
      rw [hq] at HNX HBAD
      clear hq
      by_cases hin : q < nn
      · have d1 : decide (q < nn) = true := decide_eq_true hin
        by_cases hx1 : x < 1
        · obtain rfl := HBAD.out (by rw [if_pos hin]; omega)
          clear hin
          go_wp2
          go_ret
          exact ⟨rfl, (Ext.refl w).alloc _⟩
        · have HQ : Hid (if q < nn then 0 < x else x = 0) := Lib.hid (by rw [if_pos hin]; omega)
          clear hin
          go_wp2
          go_round
          case rel => exact ⟨k + 1, by omega, by go_num, Lib.hid fun j hj => HNX.out j hj fun _ => HQ.out⟩
          case measure => simp [intOf]; omega
      · have d1 : decide (q < nn) = false := decide_eq_false hin
        by_cases hx1 : x = 0
        · have HQ : Hid (if q < nn then 0 < x else x = 0) := Lib.hid (by rw [if_neg hin]; exact hx1)
          have d2 : (x != 0) = false := by simp [hx1]
          clear hin hx1
          go_wp2
          go_round
          case rel => exact ⟨k + 1, by omega, by go_num, Lib.hid fun j hj => HNX.out j hj fun _ => HQ.out⟩
          case measure => simp [intOf]; omega
        · obtain rfl := HBAD.out (by rw [if_neg hin]; exact hx1)
          have d2 : (x != 0) = true := by simp [hx1]
          clear hin hx1
          go_wp2
          go_ret
          exact ⟨rfl, (Ext.refl w).alloc _⟩
    · obtain rfl : k = 8 := by omega
      obtain rfl : m = true := HMI.out.2 HK.out
      go_wp2
      go_ret
      exact ⟨rfl, (Ext.refl w).alloc _⟩
theorem rrmay_k (b0 b1 b2 b3 b4 b5 b6 b7 hd nn : Int) (m : Bool) (hm : Ri.may ⟨[b0, b1, b2, b3, b4, b5, b6, b7], hd, nn⟩ = m) (w : World) :
    Calls Try.prog 70 #[.agg #[.int .i64 b0, .int .i64 b1, .int .i64 b2, .int .i64 b3, .int .i64 b4, .int .i64 b5, .int .i64 b6, .int .i64 b7, .int .i64 hd, .int .i64 nn]] w fun e w' => e = .returned (.bool m) ∧ Ext w w' := by
  cases hi : Ri.inside ⟨[b0, b1, b2, b3, b4, b5, b6, b7], hd, nn⟩ with
  | true =>
    obtain ⟨h, n, rfl, rfl, h1, h2⟩ := Ri.inside_nat hi
    exact rrmay_in b0 b1 b2 b3 b4 b5 b6 b7 h n h1 h2 m hm w
  | false =>
    have h0 : m = false := by rw [← hm]; unfold Ri.may; rw [hi]; rfl
    subst h0
    refine rrmay_out b0 b1 b2 b3 b4 b5 b6 b7 hd nn w ?_
    have : ¬ ((0 ≤ hd ∧ hd < 8) ∧ 0 ≤ nn ∧ nn ≤ 8) := fun h => by rw [(Ri.inside_iff ⟨[b0, b1, b2, b3, b4, b5, b6, b7], hd, nn⟩).2 h] at hi; cases hi
    omega
theorem OwnInts.lower {w : World} {B C : Nat} {v : Value} {xs : List Int} (h : OwnInts w B v xs) (hb : C ≤ B) : OwnInts w C v xs := by
  refine ⟨h.1, ?_⟩
  rcases h.2 with hv | ⟨g, cap, cur, hv, hb', rest⟩
  · exact .inl hv
  · exact .inr ⟨g, cap, cur, hv, by omega, rest⟩
set_option maxRecDepth 100000 in
set_option maxHeartbeats 1000000 in
theorem rrlist_no (b0 b1 b2 b3 b4 b5 b6 b7 hd nn : Int) (hm : Ri.may ⟨[b0, b1, b2, b3, b4, b5, b6, b7], hd, nn⟩ = false) (w : World) :
    Calls Try.prog 31 #[.agg #[.int .i64 b0, .int .i64 b1, .int .i64 b2, .int .i64 b3, .int .i64 b4, .int .i64 b5, .int .i64 b6, .int .i64 b7, .int .i64 hd, .int .i64 nn]] w fun e w' => ∃ v, e = .returned v ∧ OwnInts w' w.heap.size v [] ∧ Ext w w' := by
  have HM := Lib.hid hm
  clear hm
  have HB := Lib.hid (blk_alloc (blk_new w (.cells #[.int .i64 b0, .int .i64 b1, .int .i64 b2, .int .i64 b3, .int .i64 b4, .int .i64 b5, .int .i64 b6, .int .i64 b7, .int .i64 hd, .int .i64 nn] 38)) (.cells #[] 3))
  have HO0 : Hid (OwnInts ((w.alloc (.cells #[.int .i64 b0, .int .i64 b1, .int .i64 b2, .int .i64 b3, .int .i64 b4, .int .i64 b5, .int .i64 b6, .int .i64 b7, .int .i64 hd, .int .i64 nn] 38)).alloc (.cells #[] 3)) w.heap.size (.slice (some ⟨w.heap.size + 1, 0, none⟩) 0 0) []) := Lib.hid (by
    have := World.ownsRow_made (base := w.heap.size) (e := 3) (size := 1) (w.alloc (.cells #[.int .i64 b0, .int .i64 b1, .int .i64 b2, .int .i64 b3, .int .i64 b4, .int .i64 b5, .int .i64 b6, .int .i64 b7, .int .i64 hd, .int .i64 nn] 38)) #[] 0 (by simp) (by decide) rfl
    rw [World.size_alloc] at this
    exact this)
  go_enter Try.func31, Try.ntmps31
  go_wp2
  go_loopw [3, 4] (fun ov iv wr => ov = .slice (some ⟨w.heap.size + 1, 0, none⟩) 0 0 ∧ iv = .int .i64 0 ∧ OwnInts wr w.heap.size (.slice (some ⟨w.heap.size + 1, 0, none⟩) 0 0) [] ∧ wr.heap[w.heap.size]? = some (.cells #[.int .i64 b0, .int .i64 b1, .int .i64 b2, .int .i64 b3, .int .i64 b4, .int .i64 b5, .int .i64 b6, .int .i64 b7, .int .i64 hd, .int .i64 nn] 38 (0, 0)) ∧ Ext w wr) (fun _ iv _ => 0)
  case atStart => exact ⟨rfl, rfl, HO0.out, HB.out, ((Ext.refl w).alloc _).alloc _⟩
  case round =>
    obtain ⟨rfl, rfl, ho, hb, hx⟩ := hrel
    have HO0 := Lib.hid ho
    clear ho
    obtain ⟨⟨q0, q1, q2, q3, q4⟩, q5, q6, q7, q8, q9⟩ := cells10 hb
    clear hb
    go_wp2_with fail
    refine (rrmay_k b0 b1 b2 b3 b4 b5 b6 b7 hd nn _ HM.out _).mono ?_
    rintro r w1 ⟨rfl, hx1⟩
    go_wp2
    go_ret
    exact ⟨_, rfl, HO0.out.ext hx1, hx.trans hx1⟩
set_option maxRecDepth 100000 in
set_option maxHeartbeats 2000000 in
theorem rrlist_in (b0 b1 b2 b3 b4 b5 b6 b7 : Int) (hd nn : Nat) (hhd : hd < 8) (hnn : nn ≤ 8) (hm : Ri.may ⟨[b0, b1, b2, b3, b4, b5, b6, b7], hd, nn⟩ = true) (l : List Int) (hl : l = (List.range nn).map fun i => ([b0, b1, b2, b3, b4, b5, b6, b7])[(hd + i) % 8]?.getD 0) (w : World) :
    Calls Try.prog 31 #[.agg #[.int .i64 b0, .int .i64 b1, .int .i64 b2, .int .i64 b3, .int .i64 b4, .int .i64 b5, .int .i64 b6, .int .i64 b7, .int .i64 (hd : Int), .int .i64 (nn : Int)]] w fun e w' => ∃ v, e = .returned v ∧ OwnInts w' w.heap.size v l ∧ Ext w w' := by
  have HM := Lib.hid hm
  have HL := Lib.hid hl
  have hn : l.length = nn := by rw [hl]; simp
  have HN := Lib.hid hn
  clear hm hl hn
  have HB := Lib.hid (blk_alloc (blk_new w (.cells #[.int .i64 b0, .int .i64 b1, .int .i64 b2, .int .i64 b3, .int .i64 b4, .int .i64 b5, .int .i64 b6, .int .i64 b7, .int .i64 (hd : Int), .int .i64 (nn : Int)] 38)) (.cells #[] 3))
  have HO0 : Hid (OwnInts ((w.alloc (.cells #[.int .i64 b0, .int .i64 b1, .int .i64 b2, .int .i64 b3, .int .i64 b4, .int .i64 b5, .int .i64 b6, .int .i64 b7, .int .i64 (hd : Int), .int .i64 (nn : Int)] 38)).alloc (.cells #[] 3)) (w.heap.size + 1) (.slice (some ⟨w.heap.size + 1, 0, none⟩) 0 0) []) := Lib.hid (by
    have := World.ownsRow_made (base := w.heap.size + 1) (e := 3) (size := 1) (w.alloc (.cells #[.int .i64 b0, .int .i64 b1, .int .i64 b2, .int .i64 b3, .int .i64 b4, .int .i64 b5, .int .i64 b6, .int .i64 b7, .int .i64 (hd : Int), .int .i64 (nn : Int)] 38)) #[] 0 (by simp) (by decide) rfl
    rw [World.size_alloc] at this
    exact this)
  go_enter Try.func31, Try.ntmps31
  go_wp2
  go_loopw [3, 4] (fun ov iv wr => ∃ (u : Value) (j : Nat) (m : List Int), u = ov ∧ j ≤ nn ∧ iv = .int .i64 j ∧ m = l.take j ∧ OwnInts wr (w.heap.size + 1) u m ∧ wr.heap[w.heap.size]? = some (.cells #[.int .i64 b0, .int .i64 b1, .int .i64 b2, .int .i64 b3, .int .i64 b4, .int .i64 b5, .int .i64 b6, .int .i64 b7, .int .i64 (hd : Int), .int .i64 (nn : Int)] 38 (0, 0)) ∧ Ext w wr ∧ w.heap.size + 2 ≤ wr.heap.size) (fun _ iv _ => nn - (intOf iv).toNat)
  case atStart => exact ⟨_, 0, [], rfl, by omega, rfl, by simp, HO0.out, HB.out, ((Ext.refl w).alloc _).alloc _, by simp⟩
  case round =>
    obtain ⟨u, j, m, hu, hj, rfl, hmm, hown, hb, hx, hsr⟩ := hrel
    subst hu
    have HOWN := Lib.hid hown
    have HMM := Lib.hid hmm
    have HTL : Hid (m.length = j) := Lib.hid (by rw [hmm, List.length_take, HN.out]; omega)
    have HBR := Lib.hid hb
    have HX := Lib.hid hx
    obtain ⟨A0, a0, rfl⟩ := OwnInts.form HOWN.out
    clear hown hmm hb hx
    obtain ⟨⟨q0, q1, q2, q3, q4⟩, q5, q6, q7, q8, q9⟩ := cells10 HBR.out
    by_cases hlt : j < nn
    · skip
      go_wp2_with fail
      refine (rrmay_k b0 b1 b2 b3 b4 b5 b6 b7 hd nn _ HM.out _).mono ?_
      rintro r wq ⟨rfl, hx5⟩
      clear q0 q1 q2 q3 q4 q5 q6 q7 q8 q9
      obtain ⟨x, hxg⟩ : ∃ x, ([b0, b1, b2, b3, b4, b5, b6, b7])[(hd + j) % 8]?.getD 0 = x := ⟨_, rfl⟩
      have pj := blk_cell (hx5.blk HBR.out) ((hd + j) % 8) _ (Ri.cells_buf (r := ⟨[b0, b1, b2, b3, b4, b5, b6, b7], hd, nn⟩) rfl _ (by omega))
      have p8 := blk_cell (hx5.blk HBR.out) 8 (.int .i64 (hd : Int)) rfl
      have p9 := blk_cell (hx5.blk HBR.out) 9 (.int .i64 (nn : Int)) rfl
      simp only at pj
      rw [hxg] at pj
      have htk : m ++ [x] = l.take (j + 1) := by
        have hlj : j < l.length := by rw [HN.out]; exact hlt
        rw [HMM.out, List.take_succ_eq_append_getElem hlj]
        congr 2
        have := HL.out
        subst this
        simp [hxg]
      have HTK := Lib.hid htk
      have e1 : IntKind.i64.wrap ((hd : Int) + (j : Int)) = ((hd + j : Nat) : Int) := IntWalk.i64_in _ (by omega)
      have e2 : ((hd + j : Nat) : Int).tmod 8 = (((hd + j) % 8 : Nat) : Int) := by rw [Int.tmod_eq_emod_of_nonneg (by omega)]; omega
      have e3 : (0 : Int) ≤ (((hd + j) % 8 : Nat) : Int) := by omega
      have e4 : (((hd + j) % 8 : Nat) : Int) < 8 := by omega
      have hszq := hx5.size
      have hub : ∀ k, (Value.slice A0 m.length a0).ownBlock = some k → w.heap.size + 1 ≤ k := fun k hk => (World.ownsRow.lt HOWN.out k hk).1
      have HO5 := Lib.hid (HOWN.out.ext hx5)
      have HX5 := Lib.hid (HX.out.trans hx5)
      have HB5 := Lib.hid (hx5.blk HBR.out)
      clear hxg htk hx5 HOWN HMM HX HBR
      obtain ⟨u, w8, hr8, ho8, hg8⟩ := OwnInts.appendS 27 (OwnInts.alloc HO5.out (.cells #[.int .i64 x] 3)) (m := [x]) (ints_one wq x) (by have := HTL.out; simp; omega) (by simp; omega)
      simp only [List.length_singleton] at hr8
      have HR8 := Lib.hid hr8
      have hX8 := Below.grown (HX5.out.alloc (.cells #[.int .i64 x] 3)) hg8 (by rw [World.size_alloc]; omega) (fun k hk => by have := hub k hk; omega)
      have hb8 : w8.heap[w.heap.size]? = some (.cells #[.int .i64 b0, .int .i64 b1, .int .i64 b2, .int .i64 b3, .int .i64 b4, .int .i64 b5, .int .i64 b6, .int .i64 b7, .int .i64 (hd : Int), .int .i64 (nn : Int)] 38 (0, 0)) := (hg8.block w.heap.size (by rw [World.size_alloc]; omega) (fun hk => by have := hub _ hk.symm; omega)).trans (blk_alloc HB5.out _)
      have hs8 := hg8.size
      rw [World.size_alloc] at hs8
      have HEND : Hid (OwnInts w8 (w.heap.size + 1) u (m ++ [x]) ∧ w8.heap[w.heap.size]? = some (.cells #[.int .i64 b0, .int .i64 b1, .int .i64 b2, .int .i64 b3, .int .i64 b4, .int .i64 b5, .int .i64 b6, .int .i64 b7, .int .i64 (hd : Int), .int .i64 (nn : Int)] 38 (0, 0)) ∧ Ext w w8 ∧ w.heap.size + 2 ≤ w8.heap.size) := Lib.hid ⟨ho8, hb8, hX8, by omega⟩
      clear hr8 ho8 hg8 hub hX8 hb8
      go_wp2_with (at_builtin; refine wpList_append_run rfl _ _ 27 rfl _ _ rfl rfl HR8.out ?_)
      go_roundw
      case rel => exact ⟨u, j + 1, m ++ [x], rfl, by omega, by go_num, HTK.out, HEND.out⟩
      case measure => simp [intOf]; omega
    · obtain rfl : j = nn := by omega
      have hml := HMM.out
      rw [← HN.out, List.take_length] at hml
      obtain rfl : l = m := hml.symm
      have HO9 := Lib.hid (OwnInts.lower HOWN.out (show w.heap.size ≤ w.heap.size + 1 by omega))
      clear HMM HOWN hml
      go_wp2_with fail
      refine (rrmay_k b0 b1 b2 b3 b4 b5 b6 b7 hd j _ HM.out _).mono ?_
      rintro r wq ⟨rfl, hx5⟩
      clear q0 q1 q2 q3 q4 q5 q6 q7 q8 q9
      have p9 := blk_cell (hx5.blk HBR.out) 9 (.int .i64 (j : Int)) rfl
      go_wp2
      go_ret
      exact ⟨_, rfl, HO9.out.ext hx5, HX.out.trans hx5⟩
theorem rrlist_k (b0 b1 b2 b3 b4 b5 b6 b7 hd nn : Int) (l : List Int) (h : Ri.list ⟨[b0, b1, b2, b3, b4, b5, b6, b7], hd, nn⟩ = l) (w : World) :
    Calls Try.prog 31 #[.agg #[.int .i64 b0, .int .i64 b1, .int .i64 b2, .int .i64 b3, .int .i64 b4, .int .i64 b5, .int .i64 b6, .int .i64 b7, .int .i64 hd, .int .i64 nn]] w fun e w' => ∃ v, e = .returned v ∧ OwnInts w' w.heap.size v l ∧ Ext w w' := by
  subst h
  cases hm : Ri.may ⟨[b0, b1, b2, b3, b4, b5, b6, b7], hd, nn⟩ with
  | false =>
    have : Ri.list ⟨[b0, b1, b2, b3, b4, b5, b6, b7], hd, nn⟩ = [] := by unfold Ri.list; rw [hm]; rfl
    rw [this]
    exact rrlist_no b0 b1 b2 b3 b4 b5 b6 b7 hd nn hm w
  | true =>
    have hi : Ri.inside ⟨[b0, b1, b2, b3, b4, b5, b6, b7], hd, nn⟩ = true := by have := hm; unfold Ri.may at this; rw [Bool.and_eq_true] at this; exact this.1
    obtain ⟨a, n, rfl, rfl, h1, h2⟩ := Ri.inside_nat hi
    refine rrlist_in b0 b1 b2 b3 b4 b5 b6 b7 a n h1 h2 hm _ ?_ w
    unfold Ri.list
    rw [if_pos hm]
    rfl

end Go.Proofs.Ytogcfndhcphpaaa
