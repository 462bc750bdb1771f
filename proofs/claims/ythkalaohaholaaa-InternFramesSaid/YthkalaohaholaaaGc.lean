/-
  Appends to slices of the call's own, at whatever element type; records of one-cell fields in slices. No function of the program is named.
-/
import Derived.Test.YthkalaohaholaaaGa
import Derived.Lib.AppendZerosOnto
import Derived.Deep.Upon
set_option linter.unusedVariables false
set_option linter.unusedSimpArgs false
namespace Go.Proofs.Ythkalaohaholaaa
open Go.RowKit

theorem own_append2 {P : Program} {w : World} {base : Nat} {e t : TypeId} (ty : TypeId) {size bytes : Nat} {i : TypeInfo} {z : Value} (ht : P.underlying t = some (.slice e)) (hi : P.info? e = some i) (hz : i.zero = some z)
    (hsize : i.size = size) (hby : i.bytes = bytes) (hzs : z.cells.size = size) (hsz : 0 < size) {v : Value} {n : Nat} {xs : List Value} (hown : w.ownsRow base e size v n xs)
    {A : Option Addr} {m : Nat} (c : Nat) {news : List Value} (hl : news.length = m * size) (hA : 0 < m → ∃ ad, A = some ad ∧ ∀ j u, news[j]? = some u → w.cell? (ad.add j) = some u) (h1 : ∀ u ∈ news, u.oneCell' = true)
    (h63 : n + m ≤ maxLen) (hbytes : (n + m) * bytes ≤ 140737488355328) (hbase : base ≤ w.heap.size) :
    ∃ v' w', (Builtin.append_ #[t, t] ty #[v, .slice A m c]).run P w = .ok v' w' ∧ w'.ownsRow base e size v' (n + m) (xs ++ news) ∧ w.grownBy w' v.ownBlock ∧ (v'.ownBlock = v.ownBlock ∨ v'.ownBlock = some w.heap.size) := by
  by_cases hm : m = 0
  · subst hm
    obtain rfl : news = [] := List.eq_nil_of_length_eq_zero (by rw [hl]; omega)
    have hs : Go.Src P i.size t (.slice A 0 c) 0 [] w := by
      cases A with
      | none => exact Go.Src.ofNil w ht c
      | some a => exact Go.Src.ofSlice w ht a 0 c [] (by simp) (by simp) (by simp)
    refine ⟨v, w, ?_, by simpa using hown, World.grownBy.refl w _, .inl rfl⟩
    rcases hown.2 with ⟨rfl, _⟩ | ⟨g, cap, cur, rfl, _, _, hle, _⟩
    · exact Go.run_append_nothing w t t ty e i ht hi none 0 0 (Nat.le_refl _) _ hs
    · exact Go.run_append_nothing w t t ty e i ht hi (some ⟨g, 0, none⟩) n cap hle _ hs
  · obtain ⟨ad, rfl, hnews⟩ := hA (by omega)
    obtain ⟨v', w', hr, h2, h3, _, h5⟩ := run_append_own_at (P := P) w base t ty e i z size bytes ht hi hz hsize hby hzs hsz v n xs hown ad m c news hl hnews h1 h63 hbytes hbase
    exact ⟨v', w', hr, h2, h3, h5⟩
theorem own_append {P : Program} {w : World} {base : Nat} {e t : TypeId} (ty : TypeId) {size bytes : Nat} {i : TypeInfo} {z : Value} (ht : P.underlying t = some (.slice e)) (hi : P.info? e = some i) (hz : i.zero = some z)
    (hsize : i.size = size) (hby : i.bytes = bytes) (hzs : z.cells.size = size) (hsz : 0 < size) {v : Value} {n : Nat} {xs : List Value} (hown : w.ownsRow base e size v n xs)
    {A : Option Addr} {m : Nat} (c : Nat) {news : List Value} (hl : news.length = m * size) (hA : 0 < m → ∃ ad, A = some ad ∧ ∀ j u, news[j]? = some u → w.cell? (ad.add j) = some u) (h1 : ∀ u ∈ news, u.oneCell' = true)
    (h63 : n + m ≤ maxLen) (hbytes : (n + m) * bytes ≤ 140737488355328) (hbase : base ≤ w.heap.size) :
    ∃ v' w', (Builtin.append_ #[t, t] ty #[v, .slice A m c]).run P w = .ok v' w' ∧ w'.ownsRow base e size v' (n + m) (xs ++ news) ∧ w.grownBy w' v.ownBlock := by
  obtain ⟨v', w', hr, h2, h3, _⟩ := own_append2 (P := P) ty ht hi hz hsize hby hzs hsz hown c hl hA h1 h63 hbytes hbase
  exact ⟨v', w', hr, h2, h3⟩
theorem wpList_append_run {P : Program} {ops : Array Oper} {rest : List Oper} {o : Oper} {a : Act} {w : World} {Q : Exit → Act → World → Prop} (hw : Region.wanted o (yielded ops a.tmps) = true) (s x : Operand) (t : TypeId)
    (ho : o.op = .call { callee := .builtin .append, args := #[s, x], argTypes := #[t, t] }) (v xv : Value) (hs : a.eval s = v) (hx : a.eval x = xv) {v' : Value} {w' : World}
    (hr : (Builtin.append_ #[t, t] o.type #[v, xv]).run P w = .ok v' w') (h : wpList P ops Q rest (a.put o.dst v') w') : wpList P ops Q (o :: rest) a w := by
  unfold wpList
  rw [if_pos hw]
  left
  unfold Oper.wp execOp
  simp only [ho, resolve, invoke, builtin, Sem.run_bind, Sem.run_pure, Result.andThen_ok, List.map_toArray, List.map_cons, List.map_nil, hs, hx, hr]
  exact h
/-- A slice of records, each of m cells. -/
def RowsAt {α : Type} (m : Nat) (f : α → List Value) (w : World) (v : Value) (xs : List α) : Prop :=
  ∃ A c, v = .slice A xs.length c ∧ xs.length ≤ c ∧ (0 < xs.length → ∃ b o, A = some ⟨b, o, none⟩ ∧ b < w.heap.size ∧ ∀ j x, xs[j]? = some x → ∀ i u, (f x)[i]? = some u → w.cell? ⟨b, o + j * m + i, none⟩ = some u)
section
variable {α : Type} {m : Nat} {f : α → List Value} {w w' : World} {v : Value} {xs ys : List α} {e : TypeId} {B : Nat}
theorem RowsAt.ext (h : RowsAt m f w v xs) (hx : Ext w w') : RowsAt m f w' v xs := by
  obtain ⟨A, c, rfl, hc, hA⟩ := h
  refine ⟨A, c, rfl, hc, fun h0 => ?_⟩
  obtain ⟨b, o, hb, hlt, hc⟩ := hA h0
  exact ⟨b, o, hb, Nat.lt_of_lt_of_le hlt hx.size, fun j x hj i u hu => by rw [Below.cell hx hlt]; exact hc j x hj i u hu⟩
theorem RowsAt.nil (w : World) : RowsAt m f w (.slice none 0 0) [] := ⟨none, 0, rfl, Nat.le_refl _, fun h => by simp at h⟩
/-- A slice of records of the call's own, in blocks from B on. -/
def OwnRows {α : Type} (e : TypeId) (m : Nat) (f : α → List Value) (w : World) (B : Nat) (v : Value) (xs : List α) : Prop := w.ownsRow B e m v xs.length (xs.flatMap f)
theorem OwnRows.nil (w : World) (B : Nat) : OwnRows e m f w B (.slice none 0 0) [] := ⟨by simp, .inl ⟨rfl, rfl⟩⟩
theorem OwnRows.alloc (h : OwnRows e m f w B v xs) (o : Obj) : OwnRows e m f (w.alloc o) B v xs := World.ownsRow.alloc h o
theorem OwnRows.ext (h : OwnRows e m f w B v xs) (hx : Ext w w') : OwnRows e m f w' B v xs := World.ownsRow.kept h hx.grownBy (by cases hv : v.ownBlock <;> simp)
theorem OwnRows.kept {row : Option Nat} (h : OwnRows e m f w B v xs) (hg : w.grownBy w' row) (hd : v.ownBlock = none ∨ v.ownBlock ≠ row) : OwnRows e m f w' B v xs := World.ownsRow.kept h hg hd
theorem OwnRows.lt (h : OwnRows e m f w B v xs) : ∀ k, v.ownBlock = some k → B ≤ k ∧ k < w.heap.size := World.ownsRow.lt h
theorem flatMap_get (hf : ∀ x, (f x).length = m) : ∀ (xs : List α) (j : Nat) (x : α), xs[j]? = some x → ∀ i u, (f x)[i]? = some u → (xs.flatMap f)[j * m + i]? = some u
  | [], j, x, h, _, _, _ => by simp at h
  | y :: xs, 0, x, h, i, u, hu => by
    simp at h; subst h
    have hi : i < (f y).length := (List.getElem?_eq_some_iff.1 hu).1
    rw [List.flatMap_cons, List.getElem?_append_left (by omega), Nat.zero_mul, Nat.zero_add]
    exact hu
  | y :: xs, j + 1, x, h, i, u, hu => by
    simp at h
    rw [List.flatMap_cons, List.getElem?_append_right (by rw [hf, Nat.add_mul]; omega), hf, show (j + 1) * m + i - m = j * m + i by rw [Nat.add_mul]; omega]
    exact flatMap_get hf xs j x h i u hu
theorem flatMap_len (hf : ∀ x, (f x).length = m) : ∀ xs : List α, (xs.flatMap f).length = xs.length * m
  | [] => by simp
  | y :: xs => by rw [List.flatMap_cons, List.length_append, hf, flatMap_len hf xs, List.length_cons, Nat.add_mul]; omega
theorem OwnRows.rows (hf : ∀ x, (f x).length = m) (h : OwnRows e m f w B v xs) : RowsAt m f w v xs := by
  have hh := h
  rcases h.2 with ⟨rfl, h0⟩ | ⟨g, cap, cur, rfl, hb, hg, hnc, hcm, hcs, htake⟩
  · obtain rfl := List.eq_nil_of_length_eq_zero h0
    exact RowsAt.nil w
  · refine ⟨_, cap, rfl, hnc, fun _ => ⟨g, 0, rfl, (Array.getElem?_eq_some_iff.1 hg).1, fun j x hj i u hu => ?_⟩⟩
    have hfl := flatMap_get hf xs j x hj i u hu
    have hlt : j * m + i < xs.length * m := by
      have := (List.getElem?_eq_some_iff.1 hfl).1
      rwa [flatMap_len hf] at this
    rw [Nat.zero_add, World.ownsRow.cellAt hh _ hlt]
    exact hfl
/-- A part of a slice of records. -/
theorem RowsAt.part {A : Option Addr} {n c : Nat} (h : RowsAt m f w (.slice A n c) xs) (lo hi : Nat) (h1 : lo ≤ hi) (h2 : hi ≤ xs.length) (A' : Option Addr) (c' : Nat) (hc : hi - lo ≤ c') (hA : lo < hi → A' = A.map fun a => ⟨a.block, a.off + lo * m, a.spot⟩) : RowsAt m f w (.slice A' (hi - lo) c') ((xs.drop lo).take (hi - lo)) := by
  obtain ⟨A0, c0, hv, hcc, hh⟩ := h
  simp only [Value.slice.injEq] at hv
  obtain ⟨rfl, rfl, rfl⟩ := hv
  have hlen : ((xs.drop lo).take (hi - lo)).length = hi - lo := by rw [List.length_take, List.length_drop]; omega
  refine ⟨A', c', by rw [hlen], by rw [hlen]; exact hc, fun h0 => ?_⟩
  rw [hlen] at h0
  obtain ⟨b, o, rfl, hb, hcell⟩ := hh (by omega)
  refine ⟨b, o + lo * m, by rw [hA (by omega)]; rfl, hb, fun j x hj i u hu => ?_⟩
  have hjl : j < hi - lo := by
    have := (List.getElem?_eq_some_iff.1 hj).1; omega
  rw [List.getElem?_take, if_pos hjl, List.getElem?_drop] at hj
  have := hcell _ _ hj i u hu
  rw [Nat.add_mul] at this
  rw [show o + lo * m + j * m + i = o + (lo * m + j * m) + i by omega]
  exact this
theorem RowsAt.len {A : Option Addr} {n c : Nat} (h : RowsAt m f w (.slice A n c) xs) : n = xs.length ∧ xs.length ≤ c := by
  obtain ⟨A0, c0, hv, hc, _⟩ := h
  simp only [Value.slice.injEq] at hv
  omega
theorem RowsAt.form (h : RowsAt m f w v xs) : ∃ A c, v = .slice A xs.length c ∧ xs.length ≤ c := by
  obtain ⟨A, c, hv, hc, _⟩ := h; exact ⟨A, c, hv, hc⟩
/-- A slice of records appended to one of the call's own. -/
theorem OwnRows.append2 {P : Program} {t : TypeId} (ty : TypeId) {bytes : Nat} {i : TypeInfo} {z : Value} (ht : P.underlying t = some (.slice e)) (hi : P.info? e = some i) (hz : i.zero = some z) (hsize : i.size = m) (hby : i.bytes = bytes) (hzs : z.cells.size = m) (hsz : 0 < m)
    (hf : ∀ x, (f x).length = m) (h1 : ∀ x, ∀ u ∈ f x, u.oneCell' = true) (h : OwnRows e m f w B v xs) {A : Option Addr} {c : Nat} (hv : RowsAt m f w (.slice A ys.length c) ys) (h63 : xs.length + ys.length ≤ maxLen) (hbytes : (xs.length + ys.length) * bytes ≤ 140737488355328) (hbase : B ≤ w.heap.size) :
    ∃ v' w', (Builtin.append_ #[t, t] ty #[v, .slice A ys.length c]).run P w = .ok v' w' ∧ OwnRows e m f w' B v' (xs ++ ys) ∧ w.grownBy w' v.ownBlock ∧ (v'.ownBlock = v.ownBlock ∨ v'.ownBlock = some w.heap.size) := by
  obtain ⟨A0, c0, hvv, hc, hA⟩ := hv
  simp only [Value.slice.injEq, true_and] at hvv
  obtain ⟨rfl, rfl⟩ := hvv
  obtain ⟨v', w', hr, ho, hg, hb⟩ := own_append2 (P := P) ty ht hi hz hsize hby hzs hsz h (A := A) (m := ys.length) c (news := ys.flatMap f) (flatMap_len hf ys) (fun h0 => by
    obtain ⟨b, o, rfl, hb, hcell⟩ := hA h0
    refine ⟨_, rfl, fun j u hj => ?_⟩
    rw [Addr.add_lit]
    have hjl : j < ys.length * m := by have := (List.getElem?_eq_some_iff.1 hj).1; rwa [flatMap_len hf] at this
    have hq : j / m < ys.length := Nat.div_lt_of_lt_mul (by rw [Nat.mul_comm]; exact hjl)
    have hr : j % m < (f ys[j / m]).length := by rw [hf]; exact Nat.mod_lt _ hsz
    have h2 := flatMap_get hf ys (j / m) _ (List.getElem?_eq_getElem hq) (j % m) _ (List.getElem?_eq_getElem hr)
    have hjj : j / m * m + j % m = j := by rw [Nat.mul_comm]; exact Nat.div_add_mod j m
    rw [hjj, hj] at h2
    have h3 := hcell (j / m) _ (List.getElem?_eq_getElem hq) (j % m) _ (List.getElem?_eq_getElem hr)
    rw [← h2] at h3
    rw [Nat.add_assoc, hjj] at h3
    exact h3) (fun u hu => by
    obtain ⟨x, _, hx⟩ := List.mem_flatMap.1 hu
    exact h1 x u hx) h63 hbytes hbase
  exact ⟨v', w', hr, by unfold OwnRows; rw [List.length_append, List.flatMap_append]; exact ho, hg, hb⟩
theorem OwnRows.append {P : Program} {t : TypeId} (ty : TypeId) {bytes : Nat} {i : TypeInfo} {z : Value} (ht : P.underlying t = some (.slice e)) (hi : P.info? e = some i) (hz : i.zero = some z) (hsize : i.size = m) (hby : i.bytes = bytes) (hzs : z.cells.size = m) (hsz : 0 < m)
    (hf : ∀ x, (f x).length = m) (h1 : ∀ x, ∀ u ∈ f x, u.oneCell' = true) (h : OwnRows e m f w B v xs) {A : Option Addr} {c : Nat} (hv : RowsAt m f w (.slice A ys.length c) ys) (h63 : xs.length + ys.length ≤ maxLen) (hbytes : (xs.length + ys.length) * bytes ≤ 140737488355328) (hbase : B ≤ w.heap.size) :
    ∃ v' w', (Builtin.append_ #[t, t] ty #[v, .slice A ys.length c]).run P w = .ok v' w' ∧ OwnRows e m f w' B v' (xs ++ ys) ∧ w.grownBy w' v.ownBlock := by
  obtain ⟨v', w', hr, h2, h3, _⟩ := OwnRows.append2 (P := P) ty ht hi hz hsize hby hzs hsz hf h1 h hv h63 hbytes hbase
  exact ⟨v', w', hr, h2, h3⟩
/-- What a slice of the call's own owns is new, where B is the beginning. -/
theorem OwnRows.grown {W : World} (h : OwnRows e m f w W.heap.size v xs) (hx : Ext W w) (hg : w.grownBy w' v.ownBlock) : Ext W w' := Below.grown hx hg hx.size fun k hk => (h.lt k hk).1
end

end Go.Proofs.Ythkalaohaholaaa
