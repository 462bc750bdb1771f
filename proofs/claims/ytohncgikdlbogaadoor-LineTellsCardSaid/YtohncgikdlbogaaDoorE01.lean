/-
  Several texts in one: La, Lp, Ga, Gc, Ma, Gm, Gb, Mb, Mc, Md, Me, Mr, Ha, Gd, Na, Nb, Nc, Nd, Ne, Nf, Ng, Nh, Ni, Nj, Nk, Nl, Rg, Sa, Ta.
-/
import Derived.Test.YtohncgikdlbogaaDoorRows
import Derived.WalkKit
import Derived.WalkSpells
import Derived.WalkLawsBesides
import Derived.Lib.Hide
import Derived.Laws.BytesArg
import Derived.ProofKit
import Derived.OpenShut
import Derived.Deep.AppendLies
import Derived.Deep.QuietTactic
import Derived.BigQuiet
import Derived.Lib.AppendZerosOnto
import Derived.Deep.Upon
import Derived.Maps.OwnSet
import Derived.Maps.Views
import Derived.RangeFuncBox
import Derived.RangeFuncLeaves
import Derived.RangeFuncNested
import Derived.RangeFuncBound
import Derived.RangeFuncCalls
import Derived.Shelf.Abstract
import Derived.Shelf.RegionOpen
import Derived.OwnWalkIn
import Derived.TacticsInMore
import Derived.LoopNIn
import Derived.LoopIn
import Derived.ChangeKeysEq
import Derived.Deep.DeepCutAuto
import Derived.Maps.AppendAt
import Derived.Orders
set_option linter.unusedVariables false
set_option linter.unusedSimpArgs false
namespace Go.Proofs.YtohncgikdlbogaaDoor
open Go.RowKit
def Ext (w w' : World) : Prop := Below w.heap.size w w'
theorem Ext.refl (w : World) : Ext w w := Below.refl _ _
theorem Ext.trans {a b c : World} (h : Ext a b) (k : Ext b c) : Ext a c := Below.trans h (Below.mono k h.size)
theorem Ext.drew {a b : World} (h : Ext a b) : Ext a b.drew := Below.drew h
theorem Ext.drewN {a b : World} (h : Ext a b) (n : Nat) : Ext a (b.drewN n) := ⟨h.os, h.tape, h.output, h.size, h.block⟩
theorem Ext.alloc {a b : World} (h : Ext a b) (o : Obj) : Ext a (b.alloc o) := Below.alloc h h.size o
open Go.ChangeShapes Go.WideShapes Go.ChangeAt Go.RowKit
theorem law_post {H : Type} {enc : TypeId × Value → H} {P : Program} {f : Func} {s : ChangeSpec} {ap fr hs ag : Bool} {W V : World} {args : Array Value} {v : Value} {ds gs : List (DataW H)} {pl pa pv : List MemPlace}
    (hW : DataW.Whole enc P f.params.toList s.vars ap W args.toList ds gs pl)
    (hr : ∀ (b : Nat) (sp : Nat → Bool) (hd : Bool), DataW.TrodAll enc P V b sp hd f.resultTypes.toList (v.resultList f.resultTypes.size) (s.fn H (ds ++ gs)).results [])
    (ha : ∀ sp : Nat → Bool, (∀ p ∈ pl, sp p.block = true) → DataW.TrodAll enc P V 0 sp true f.params.toList args.toList (s.fn H (ds ++ gs)).args pa)
    (hv : ∀ sp : Nat → Bool, (∀ p ∈ pl, sp p.block = true) → DataW.TrodVars enc P V sp s.vars (s.fn H (ds ++ gs)).vars pv)
    (hp : pl = pa ++ pv) (hx : Ext W V)
    (ok : ∀ (j : Nat) (t : TypeId) (r : Value), f.resultTypes[j]? = some t → (v.resultList f.resultTypes.size)[j]? = some r → Value.okWide P V .any 0 t r) :
    s.post enc P f ap fr hs ag W args v V := by
 have low : ∀ p ∈ pl, p.block < W.heap.size := fun p h => hW.lt p h
 have low' : ∀ p ∈ pl, (fun b => decide (b < W.heap.size)) p.block = true := fun p h => decide_eq_true (low p h)
 have hin : ∀ p ∈ pl, p ∈ pa ++ pv := fun p h => hp ▸ h
 refine ⟨ds, gs, pl, [], pa, pv, hW, hr _ _ _, ha _ low', hv _ low', World.keptBut_mono (fun p h => ⟨h, ?_⟩) (Below.frame hx (· ∈ pl)), fun _ => ?_⟩
 · simpa using hin p h
 · obtain ⟨_, _, _, _, _, hz, hn⟩ := hW
   refine ⟨ok, _, _, ([] ++ pa) ++ pv, ⟨[] ++ pa, pv, trodAll_append (ha _ (fun _ _ => rfl)) (hr _ _ _), hv _ (fun _ _ => rfl), rfl, ?_, ?_⟩, ?_⟩
   · intro b o h
     have h' : MemPlace.cell b o ∈ pl := by rw [hp]; simpa using h
     exact (Below.frozen hx (low _ h')).trans (hz b o h')
   · intro h
     simpa [hp] using hn h
   · intro p h _
     simpa [hp] using h
def IsRow (k : IntKind) (w : World) (a : Option Addr) (len cap : Nat) (zs : List Int) : Prop :=
 (a = none ∧ len = 0 ∧ cap = 0 ∧ zs = []) ∨
 ∃ x, a = some x ∧ len ≤ cap ∧ cap ≤ maxLen ∧ zs.length = cap ∧ (∀ i, i < zs.length → w.cell? (x.add i) = some (.int k (zs.getD i 0))) ∧ ∀ n ∈ zs, (Lit.int k n).wf = true
def Upd (g : Nat) (w w' : World) : Prop := w.grownBy w' (some g)
theorem Upd.refl (g : Nat) (w : World) : Upd g w w := World.grownBy.refl w _
theorem Upd.trans {g : Nat} {a b c : World} (h : Upd g a b) (k : Upd g b c) : Upd g a c :=
 ⟨k.os.trans h.os, k.tape.trans h.tape, k.output.trans h.output, Nat.le_trans h.size k.size, fun i hi hne => (k.block i (Nat.lt_of_lt_of_le hi h.size) hne).trans (h.block i hi hne)⟩
theorem Upd.ext {g : Nat} {a b : World} (h : Ext a b) : Upd g a b := ⟨h.os, h.tape, h.output, h.size, fun i hi _ => h.block i hi⟩
theorem Upd.set {g : Nat} {a b : World} (h : Upd g a b) (i : Nat) (u : Value) : Upd g a (b.setCell ⟨g, i, none⟩ u) :=
 h.trans ⟨rfl, rfl, rfl, by simp [World.setCell], fun k _ hne => Below.heap_setCell _ _ _ _ (by rintro rfl; exact hne rfl)⟩
theorem Ext.upd {g : Nat} {a b c : World} (h : Ext a b) (k : Upd g b c) (hg : a.heap.size ≤ g) : Ext a c :=
 Below.grown h k h.size (by intro k hk; injection hk with hk; omega)
theorem Ext.grownBy {w w' : World} (hx : Ext w w') : w.grownBy w' none := ⟨hx.os, hx.tape, hx.output, hx.size, fun k hk _ => hx.block k hk⟩
theorem Upd.blk {g b : Nat} {w w' : World} {o : Obj} (h : Upd g w w') (hb : w.heap[b]? = some o) (hne : b ≠ g) : w'.heap[b]? = some o :=
 (h.block b (Array.getElem?_eq_some_iff.1 hb).1 (fun e => hne (by injection e))).trans hb
theorem Ext.blk {b : Nat} {w w' : World} {o : Obj} (h : Ext w w') (hb : w.heap[b]? = some o) : w'.heap[b]? = some o :=
 (h.block b (Array.getElem?_eq_some_iff.1 hb).1).trans hb
theorem blk_cell {w : World} {b : Nat} {cs : Array Value} {t : TypeId} {fr : Nat × Nat} (h : w.heap[b]? = some (.cells cs t fr)) (i : Nat) (x : Value) (hx : cs[i]? = some x) : w.cell? ⟨b, i, none⟩ = some x := by
 rw [cell_of_row w b i cs t fr h, hx]
theorem blk_lt {w : World} {b : Nat} {o : Obj} (h : w.heap[b]? = some o) : b < w.heap.size := (Array.getElem?_eq_some_iff.1 h).1
theorem blk_set {w : World} {b : Nat} {cs : Array Value} {t : TypeId} (h : w.heap[b]? = some (.cells cs t (0, 0))) (i : Nat) (u : Value) : (w.setCell ⟨b, i, none⟩ u).heap[b]? = some (.cells (cs.setIfInBounds i u) t (0, 0)) := heap_setCell_same w b i _ _ _ h
theorem blk_alloc {w : World} {b : Nat} {o : Obj} (h : w.heap[b]? = some o) (q : Obj) : (w.alloc q).heap[b]? = some o := (Below.heap_alloc w q b (blk_lt h)).trans h
theorem blk_new (w : World) (q : Obj) : (w.alloc q).heap[w.heap.size]? = some q := heap_alloc_new w q
def IntsAt (w : World) (v : Value) (xs : List Int) : Prop :=
 ∃ A c, v = .slice A xs.length c ∧ (0 < xs.length → ∃ b o, A = some ⟨b, o, none⟩ ∧ b < w.heap.size ∧ ∀ j x, xs[j]? = some x → w.cell? ⟨b, o + j, none⟩ = some (.int .i64 x))
theorem own_append2 {P : Program} {w : World} {base : Nat} {e t : TypeId} (ty : TypeId) {size bytes : Nat} {i : TypeInfo} {z : Value} (ht : P.underlying t = some (.slice e)) (hi : P.info? e = some i) (hz : i.zero = some z)
    (hsize : i.size = size) (hby : i.bytes = bytes) (hzs : z.cells.size = size) (hsz : 0 < size) {v : Value} {n : Nat} {xs : List Value} (hown : w.ownsRow base e size v n xs)
    {A : Option Addr} {m : Nat} (c : Nat) {news : List Value} (hl : news.length = m * size) (hA : 0 < m → ∃ ad, A = some ad ∧ ∀ j u, news[j]? = some u → w.cell? (ad.add j) = some u) (h1 : ∀ u ∈ news, u.oneCell' = true)
    (h63 : n + m ≤ maxLen) (hbytes : (n + m) * bytes ≤ 140737488355328) (hbase : base ≤ w.heap.size) :
    ∃ v' w', (Builtin.append_ #[t, t] ty #[v, .slice A m c]).run P w = .ok v' w' ∧ w'.ownsRow base e size v' (n + m) (xs ++ news) ∧ w.grownBy w' v.ownBlock ∧ (v'.ownBlock = v.ownBlock ∨ v'.ownBlock = some w.heap.size) := by
 by_cases hm : m = 0
 · subst hm
   obtain rfl : news = [] := List.eq_nil_of_length_eq_zero (by rw [hl]; omega)
   have hs : Go.Src P i.size t (.slice A 0 c) 0 [] w := by
    cases A with
    | none => exact Go.Src.ofNil w ht c
    | some a => exact Go.Src.ofSlice w ht a 0 c [] (by simp) (by simp) (by simp)
   refine ⟨v, w, ?_, by simpa using hown, World.grownBy.refl w _, .inl rfl⟩
   rcases hown.2 with ⟨rfl, _⟩ | ⟨g, cap, cur, rfl, _, _, hle, _⟩
   · exact Go.run_append_nothing w t t ty e i ht hi none 0 0 (Nat.le_refl _) _ hs
   · exact Go.run_append_nothing w t t ty e i ht hi (some ⟨g, 0, none⟩) n cap hle _ hs
 · obtain ⟨ad, rfl, hnews⟩ := hA (by omega)
   obtain ⟨v', w', hr, h2, h3, _, h5⟩ := run_append_own_at (P := P) w base t ty e i z size bytes ht hi hz hsize hby hzs hsz v n xs hown ad m c news hl hnews h1 h63 hbytes hbase
   exact ⟨v', w', hr, h2, h3, h5⟩
theorem wpList_append_run {P : Program} {ops : Array Oper} {rest : List Oper} {o : Oper} {a : Act} {w : World} {Q : Exit → Act → World → Prop} (hw : Region.wanted o (yielded ops a.tmps) = true) (s x : Operand) (t : TypeId)
    (ho : o.op = .call { callee := .builtin .append, args := #[s, x], argTypes := #[t, t] }) (v xv : Value) (hs : a.eval s = v) (hx : a.eval x = xv) {v' : Value} {w' : World}
    (hr : (Builtin.append_ #[t, t] o.type #[v, xv]).run P w = .ok v' w') (h : wpList P ops Q rest (a.put o.dst v') w') : wpList P ops Q (o :: rest) a w := by
 unfold wpList
 rw [if_pos hw]
 left
 unfold Oper.wp execOp
 simp only [ho, resolve, invoke, builtin, Sem.run_bind, Sem.run_pure, Result.andThen_ok, List.map_toArray, List.map_cons, List.map_nil, hs, hx, hr]
 exact h
def RowsAt {α : Type} (m : Nat) (f : α → List Value) (w : World) (v : Value) (xs : List α) : Prop :=
 ∃ A c, v = .slice A xs.length c ∧ xs.length ≤ c ∧ (0 < xs.length → ∃ b o, A = some ⟨b, o, none⟩ ∧ b < w.heap.size ∧ ∀ j x, xs[j]? = some x → ∀ i u, (f x)[i]? = some u → w.cell? ⟨b, o + j * m + i, none⟩ = some u)
section
variable {α : Type} {m : Nat} {f : α → List Value} {w w' : World} {v : Value} {xs ys : List α} {e : TypeId} {B : Nat}
theorem RowsAt.ext (h : RowsAt m f w v xs) (hx : Ext w w') : RowsAt m f w' v xs := by
 obtain ⟨A, c, rfl, hc, hA⟩ := h
 refine ⟨A, c, rfl, hc, fun h0 => ?_⟩
 obtain ⟨b, o, hb, hlt, hc⟩ := hA h0
 exact ⟨b, o, hb, Nat.lt_of_lt_of_le hlt hx.size, fun j x hj i u hu => by rw [Below.cell hx hlt]; exact hc j x hj i u hu⟩
theorem RowsAt.nil (w : World) : RowsAt m f w (.slice none 0 0) [] := ⟨none, 0, rfl, Nat.le_refl _, fun h => by simp at h⟩
def OwnRows {α : Type} (e : TypeId) (m : Nat) (f : α → List Value) (w : World) (B : Nat) (v : Value) (xs : List α) : Prop := w.ownsRow B e m v xs.length (xs.flatMap f)
theorem OwnRows.nil (w : World) (B : Nat) : OwnRows e m f w B (.slice none 0 0) [] := ⟨by simp, .inl ⟨rfl, rfl⟩⟩
theorem OwnRows.alloc (h : OwnRows e m f w B v xs) (o : Obj) : OwnRows e m f (w.alloc o) B v xs := World.ownsRow.alloc h o
theorem OwnRows.ext (h : OwnRows e m f w B v xs) (hx : Ext w w') : OwnRows e m f w' B v xs := World.ownsRow.kept h hx.grownBy (by cases hv : v.ownBlock <;> simp)
theorem OwnRows.kept {row : Option Nat} (h : OwnRows e m f w B v xs) (hg : w.grownBy w' row) (hd : v.ownBlock = none ∨ v.ownBlock ≠ row) : OwnRows e m f w' B v xs := World.ownsRow.kept h hg hd
theorem OwnRows.lt (h : OwnRows e m f w B v xs) : ∀ k, v.ownBlock = some k → B ≤ k ∧ k < w.heap.size := World.ownsRow.lt h
theorem flatMap_get (hf : ∀ x, (f x).length = m) : ∀ (xs : List α) (j : Nat) (x : α), xs[j]? = some x → ∀ i u, (f x)[i]? = some u → (xs.flatMap f)[j * m + i]? = some u
 | [], j, x, h, _, _, _ => by simp at h
 | y :: xs, 0, x, h, i, u, hu => by
  simp at h; subst h
  have hi : i < (f y).length := (List.getElem?_eq_some_iff.1 hu).1
  rw [List.flatMap_cons, List.getElem?_append_left (by omega), Nat.zero_mul, Nat.zero_add]
  exact hu
 | y :: xs, j + 1, x, h, i, u, hu => by
  simp at h
  rw [List.flatMap_cons, List.getElem?_append_right (by rw [hf, Nat.add_mul]; omega), hf, show (j + 1) * m + i - m = j * m + i by rw [Nat.add_mul]; omega]
  exact flatMap_get hf xs j x h i u hu
theorem flatMap_len (hf : ∀ x, (f x).length = m) : ∀ xs : List α, (xs.flatMap f).length = xs.length * m
 | [] => by simp
 | y :: xs => by rw [List.flatMap_cons, List.length_append, hf, flatMap_len hf xs, List.length_cons, Nat.add_mul]; omega
theorem OwnRows.rows (hf : ∀ x, (f x).length = m) (h : OwnRows e m f w B v xs) : RowsAt m f w v xs := by
 have hh := h
 rcases h.2 with ⟨rfl, h0⟩ | ⟨g, cap, cur, rfl, hb, hg, hnc, hcm, hcs, htake⟩
 · obtain rfl := List.eq_nil_of_length_eq_zero h0
   exact RowsAt.nil w
 · refine ⟨_, cap, rfl, hnc, fun _ => ⟨g, 0, rfl, (Array.getElem?_eq_some_iff.1 hg).1, fun j x hj i u hu => ?_⟩⟩
   have hfl := flatMap_get hf xs j x hj i u hu
   have hlt : j * m + i < xs.length * m := by
    have := (List.getElem?_eq_some_iff.1 hfl).1
    rwa [flatMap_len hf] at this
   rw [Nat.zero_add, World.ownsRow.cellAt hh _ hlt]
   exact hfl
theorem RowsAt.form (h : RowsAt m f w v xs) : ∃ A c, v = .slice A xs.length c ∧ xs.length ≤ c := by
 obtain ⟨A, c, hv, hc, _⟩ := h; exact ⟨A, c, hv, hc⟩
theorem OwnRows.append2 {P : Program} {t : TypeId} (ty : TypeId) {bytes : Nat} {i : TypeInfo} {z : Value} (ht : P.underlying t = some (.slice e)) (hi : P.info? e = some i) (hz : i.zero = some z) (hsize : i.size = m) (hby : i.bytes = bytes) (hzs : z.cells.size = m) (hsz : 0 < m)
    (hf : ∀ x, (f x).length = m) (h1 : ∀ x, ∀ u ∈ f x, u.oneCell' = true) (h : OwnRows e m f w B v xs) {A : Option Addr} {c : Nat} (hv : RowsAt m f w (.slice A ys.length c) ys) (h63 : xs.length + ys.length ≤ maxLen) (hbytes : (xs.length + ys.length) * bytes ≤ 140737488355328) (hbase : B ≤ w.heap.size) :
    ∃ v' w', (Builtin.append_ #[t, t] ty #[v, .slice A ys.length c]).run P w = .ok v' w' ∧ OwnRows e m f w' B v' (xs ++ ys) ∧ w.grownBy w' v.ownBlock ∧ (v'.ownBlock = v.ownBlock ∨ v'.ownBlock = some w.heap.size) := by
 obtain ⟨A0, c0, hvv, hc, hA⟩ := hv
 simp only [Value.slice.injEq, true_and] at hvv
 obtain ⟨rfl, rfl⟩ := hvv
 obtain ⟨v', w', hr, ho, hg, hb⟩ := own_append2 (P := P) ty ht hi hz hsize hby hzs hsz h (A := A) (m := ys.length) c (news := ys.flatMap f) (flatMap_len hf ys) (fun h0 => by
  obtain ⟨b, o, rfl, hb, hcell⟩ := hA h0
  refine ⟨_, rfl, fun j u hj => ?_⟩
  rw [Addr.add_lit]
  have hjl : j < ys.length * m := by have := (List.getElem?_eq_some_iff.1 hj).1; rwa [flatMap_len hf] at this
  have hq : j / m < ys.length := Nat.div_lt_of_lt_mul (by rw [Nat.mul_comm]; exact hjl)
  have hr : j % m < (f ys[j / m]).length := by rw [hf]; exact Nat.mod_lt _ hsz
  have h2 := flatMap_get hf ys (j / m) _ (List.getElem?_eq_getElem hq) (j % m) _ (List.getElem?_eq_getElem hr)
  have hjj : j / m * m + j % m = j := by rw [Nat.mul_comm]; exact Nat.div_add_mod j m
  rw [hjj, hj] at h2
  have h3 := hcell (j / m) _ (List.getElem?_eq_getElem hq) (j % m) _ (List.getElem?_eq_getElem hr)
  rw [← h2] at h3
  rw [Nat.add_assoc, hjj] at h3
  exact h3) (fun u hu => by
  obtain ⟨x, _, hx⟩ := List.mem_flatMap.1 hu
  exact h1 x u hx) h63 hbytes hbase
 exact ⟨v', w', hr, by unfold OwnRows; rw [List.length_append, List.flatMap_append]; exact ho, hg, hb⟩
theorem OwnRows.append {P : Program} {t : TypeId} (ty : TypeId) {bytes : Nat} {i : TypeInfo} {z : Value} (ht : P.underlying t = some (.slice e)) (hi : P.info? e = some i) (hz : i.zero = some z) (hsize : i.size = m) (hby : i.bytes = bytes) (hzs : z.cells.size = m) (hsz : 0 < m)
    (hf : ∀ x, (f x).length = m) (h1 : ∀ x, ∀ u ∈ f x, u.oneCell' = true) (h : OwnRows e m f w B v xs) {A : Option Addr} {c : Nat} (hv : RowsAt m f w (.slice A ys.length c) ys) (h63 : xs.length + ys.length ≤ maxLen) (hbytes : (xs.length + ys.length) * bytes ≤ 140737488355328) (hbase : B ≤ w.heap.size) :
    ∃ v' w', (Builtin.append_ #[t, t] ty #[v, .slice A ys.length c]).run P w = .ok v' w' ∧ OwnRows e m f w' B v' (xs ++ ys) ∧ w.grownBy w' v.ownBlock := by
 obtain ⟨v', w', hr, h2, h3, _⟩ := OwnRows.append2 (P := P) ty ht hi hz hsize hby hzs hsz hf h1 h hv h63 hbytes hbase
 exact ⟨v', w', hr, h2, h3⟩
theorem OwnRows.grown {W : World} (h : OwnRows e m f w W.heap.size v xs) (hx : Ext W w) (hg : w.grownBy w' v.ownBlock) : Ext W w' := Below.grown hx hg hx.size fun k hk => (h.lt k hk).1
end
abbrev Gs4 := Int × Int × Int × Int
structure Sn where
 time : Int
 ps : List (Int × Int)
 gs : List Gs4
def snNum (n : Int) : Bool := decide (0 ≤ n) && decide (n < 4611686018427387904)
theorem snNum_iff (n : Int) : snNum n = true ↔ 0 ≤ n ∧ n < 4611686018427387904 := by unfold snNum; simp
abbrev Hold := Int → Int × Int
def Hold.put (h : Hold) (m : Int) (p : Int × Int) : Hold := fun y => if y = m then p else h y
def snPs : List (Int × Int) → Hold → Option Hold
 | [], h => some h
 | p :: l, h => if snNum p.1 && snNum p.2 then (if p.1 = 0 then snPs l h else if 0 < (h p.1).1 then none else snPs l (h.put p.1 (1, 0))) else none
def snHold (g : Gs4) (h : Hold) : Bool × Hold :=
 if g.2.1 = 1 ∨ g.2.1 = 3 then (decide (g.2.2.1 = 0), h)
 else if g.2.2.1 = 0 ∨ 0 < (h g.2.2.1).2 then (false, h)
 else ((decide (g.2.1 = 2) && decide ((h g.2.2.1).1 = 1)) || (decide (g.2.1 = 4) && decide ((h g.2.2.1).1 = 0)), h.put g.2.2.1 ((h g.2.2.1).1, 1))
def snGs : List Gs4 → Int → Hold → Bool
 | [], _, _ => true
 | g :: l, last, h => if snNum g.1 && snNum g.2.1 && snNum g.2.2.1 && snNum g.2.2.2 && decide (last < g.1) && (snHold g h).1 then snGs l g.1 (snHold g h).2 else false
def Sn.may (s : Sn) : Bool :=
 snNum s.time && decide (s.ps.length ≤ 64) && decide (s.gs.length ≤ 1000) && (match snPs s.ps (fun _ => (0, 0)) with | none => false | some h => snGs s.gs 0 h)
def snPCells (p : Int × Int) : List Value := [.int .i64 p.1, .int .i64 p.2]
def snGCells (g : Gs4) : List Value := [.int .i64 g.1, .int .i64 g.2.1, .int .i64 g.2.2.1, .int .i64 g.2.2.2]
open Go.RowKit Go.Maps
def i64in (x : Int) : Prop := -9223372036854775808 ≤ x ∧ x ≤ 9223372036854775807
theorem i64in_wf {x : Int} (h : i64in x) : (Lit.int .i64 x).wf = true := by
 unfold i64in at h
 simp [Lit.wf, IntKind.min, IntKind.max, IntKind.signed, IntKind.bits]
 omega
def pairVal (p : Int × Int) : Value := .agg #[.int .i64 p.1, .int .i64 p.2]
def pairDat (p : Int × Int) : DataW Unit := .agg [.lit (.int .i64 p.1), .lit (.int .i64 p.2)]
def pairCells : List Value → Option (DataW Unit × List MemPlace)
 | [.int .i64 a, .int .i64 b] => some (pairDat (a, b), [])
 | _ => none
def pairElem : Value → Option (DataW Unit × List MemPlace)
 | .agg cs => pairCells cs.toList
 | _ => none
theorem pairElem_mk (p : Int × Int) : pairElem (pairVal p) = some (pairDat p, []) := rfl
theorem pairElem_inv {v : Value} {p : Int × Int} {ps : List MemPlace} (h : pairElem v = some (pairDat p, ps)) : v = pairVal p := by
 unfold pairElem at h
 split at h
 · rename_i cs
   obtain ⟨l⟩ := cs
   simp only at h
   unfold pairCells at h
   split at h
   · rename_i a b
     simp only [Option.some.injEq, Prod.mk.injEq] at h
     have h1 := h.1
     unfold pairDat at h1
     simp only [DataW.agg.injEq, List.cons.injEq, DataW.lit.injEq, Lit.int.injEq, true_and, and_true] at h1
     obtain ⟨rfl, rfl⟩ := h1
     rfl
   · cases h
 · cases h
section
variable {P : Program} {k : TypeId} {w w' : World} {b n : Nat} {f : Int → Int × Int}
def MapAt (P : Program) (k : TypeId) (w : World) (b n : Nat) (f : Int → Int × Int) : Prop := ∃ D, w.ownsMap P k pairElem b n D ∧ IsMap D ∧ ∀ x, i64in x → D.atKey (.int .i64 x) (pairDat (0, 0)) = pairDat (f x)
theorem MapAt.ext (h : MapAt P k w b n f) (hx : Ext w w') : MapAt P k w' b n f := by
 obtain ⟨D, h1, h2⟩ := h
 exact ⟨D, h1.kept (row := none) hx.grownBy (by simp), h2⟩
theorem MapAt.made (w : World) : MapAt P k (w.alloc (.map #[] 0)) w.heap.size 0 fun _ => (0, 0) :=
 ⟨.map [], World.ownsMap_made _ _ _ _, ⟨[], rfl⟩, fun x _ => rfl⟩
theorem MapAt.lt (h : MapAt P k w b n f) : b < w.heap.size := by obtain ⟨D, h1, _⟩ := h; exact h1.lt
theorem MapAt.mono (h : MapAt P k w b n f) {m : Nat} (hm : n ≤ m) : MapAt P k w b m f := by obtain ⟨D, h1, h2⟩ := h; exact ⟨D, h1.mono hm, h2⟩
theorem MapAt.look (h : MapAt P k w b n f) {t e : TypeId} (hk : P.underlying k = some (.int .i64)) (ht : P.underlying t = some (.map k e)) (hz : (zeroValue e).run P w = .ok (pairVal (0, 0)) w) (x : Int) (hx : i64in x) :
    (Instr.lookup t (.map (some b)) (.int .i64 x) false).run P w = .ok (pairVal (f x)) w := by
 obtain ⟨D, h1, h2, h3⟩ := h
 obtain ⟨v, ps, hr, hv⟩ := h1.lookup (int_keyed hk) ht hz (pairElem_mk (0, 0)) (keyOf_int_mk hk (i64in_wf hx))
 rw [h3 x hx] at hv
 rw [hr, pairElem_inv hv]
theorem MapAt.store (h : MapAt P k w b n f) {t e : TypeId} (hk : P.underlying k = some (.int .i64)) (ht : P.underlying t = some (.map k e)) (hn : n < maxLen) (x : Int) (hx : i64in x) (p : Int × Int) :
    ∃ w', (Instr.mapUpdate t (.map (some b)) (.int .i64 x) (pairVal p)).run P w = .ok () w' ∧ MapAt P k w' b (n + 1) (fun y => if y = x then p else f y) ∧ w.grownBy w' (some b) := by
 obtain ⟨D, h1, h2, h3⟩ := h
 obtain ⟨w', hr, ho, hg⟩ := h1.update (int_keyed hk) ht hn (keyOf_int_mk hk (i64in_wf hx)) (pairElem_mk p)
 refine ⟨w', hr, ⟨_, ho, ho.isMap, fun y hy => ?_⟩, hg⟩
 by_cases he : y = x
 · subst he
   rw [atKey_put_same h2 (by simp [WideAt.IsKeyLit])]
   simp
 · rw [atKey_put_other (by simpa using he), h3 y hy]
   simp [he]
end
open Go.RowKit Go.Maps
theorem all_next {α : Type} {l : List α} {p : α → Bool} {k : Nat} (h : k < l.length) : (l.take (k + 1)).all p = ((l.take k).all p && p l[k]) := by
 rw [List.take_succ_eq_append_getElem h, List.all_append]
 simp
theorem sn_all_no {α : Type} {l : List α} {p : α → Bool} {k : Nat} (h : k < l.length) (hn : p l[k] = false) : l.all p = false := by
 cases ha : l.all p with
 | false => rfl
 | true => rw [List.all_eq_true.1 ha _ (List.getElem_mem h)] at hn; cases hn
set_option maxRecDepth 100000 in
set_option maxHeartbeats 1000000 in
theorem snnum_any (v : Value) (l : List Int) (r : Bool) (hr : l.all snNum = r) (w : World) (h : IntsAt w v l) (hn : l.length ≤ 1000) :
    Calls Tryd.prog 41 #[v] w fun e w' => e = .returned (.bool r) ∧ w = w' := by
 obtain ⟨A, c, rfl, hA⟩ := h
 have HA := Lib.hid hA
 have HR := Lib.hid hr
 clear hA hr
 go_enter Tryd.func41, Tryd.ntmps41
 go_wp2
 go_loop [7] (fun iv => ∃ k : Nat, k ≤ l.length ∧ iv = .int .i64 k ∧ Hid ((l.take k).all snNum = true)) (fun iv => l.length - (intOf iv).toNat)
 case atStart => exact ⟨0, by omega, rfl, Lib.hid rfl⟩
 case round =>
  obtain ⟨k, hk, rfl, HK⟩ := hrel
  by_cases hlt : k < l.length
  · obtain ⟨b, o, rfl, hb, hc⟩ := HA.out (by omega)
    have pj := hc k l[k] (List.getElem?_eq_getElem hlt)
    have HN := Lib.hid (all_next (p := snNum) hlt)
    have HNO : Hid (snNum l[k] = false → r = false) := Lib.hid fun h => by rw [← HR.out]; exact sn_all_no hlt h
    clear hc
    generalize l[k] = x at *
    by_cases h0 : x < 0
    · obtain rfl := HNO.out (by unfold snNum; simp; omega)
      go_wp2
      go_ret
      exact ⟨rfl, rfl⟩
    · by_cases h1 : 4611686018427387904 ≤ x
      · obtain rfl := HNO.out (by unfold snNum; simp; omega)
        go_wp2
        go_ret
        exact ⟨rfl, rfl⟩
      · have HX : Hid (snNum x = true) := Lib.hid ((snNum_iff x).2 (by omega))
        go_wp2
        go_round
        case rel => exact ⟨k + 1, by omega, by go_num, Lib.hid (by rw [HN.out, HK.out, HX.out]; rfl)⟩
        case measure => simp [intOf]; omega
  · obtain rfl : k = l.length := by omega
    have hk' := HK.out
    rw [List.take_length, HR.out] at hk'
    subst hk'
    go_wp2
    go_ret
    exact ⟨rfl, rfl⟩
theorem wpList_mapUpdate_run {P : Program} {ops : Array Oper} {rest : List Oper} {o : Oper} {a : Act} {w w' : World} {Q : Exit → Act → World → Prop} (hg : o.guard = none) (m x v : Operand) (t : TypeId) (hop : o.op = Op.mapUpdate t m x v)
    (mv key val : Value) (hm : a.eval m = mv) (hx : a.eval x = key) (hv : a.eval v = val) (hr : (Instr.mapUpdate t mv key val).run P w = .ok () w') (h : wpList P ops Q rest (a.put o.dst undef) w') : wpList P ops Q (o :: rest) a w := by
 refine wpList_plain hg fun K' hK' => ?_
 unfold Oper.wp
 simp [execOp, hop, hm, hx, hv, hr, Result.andThen]
 exact hK' _ _ h
theorem snzero (w : World) : (zeroValue 105).run Tryd.prog w = .ok (pairVal (0, 0)) w := by kernel_rfl
def HoldPost (b n : Nat) (r : Bool × Hold) (w : World) (e : Ending) (w' : World) : Prop := e = .returned (.bool r.1) ∧ MapAt Tryd.prog 3 w' b (n + 1) r.2 ∧ Upd b w w'
set_option maxRecDepth 100000 in
set_option maxHeartbeats 1000000 in
theorem snhold_any (g st m q : Int) (b n : Nat) (f : Hold) (w : World) (h : MapAt Tryd.prog 3 w b n f) (hn : n ≤ 100000) (hm : i64in m) :
    Calls Tryd.prog 58 #[.agg #[.int .i64 g, .int .i64 st, .int .i64 m, .int .i64 q], .map (some b)] w (HoldPost b n (snHold (g, st, m, q) f) w) := by
 have H := Lib.hid h
 have HM := Lib.hid hm
 have hlook := (h.ext ((Ext.refl w).alloc (.cells #[.int .i64 g, .int .i64 st, .int .i64 m, .int .i64 q] 49))).look Tryd.underlying3 Tryd.underlying82 (snzero _) m hm
 have hsz := h.lt
 clear h hm
 obtain ⟨⟨a, c⟩, hfm⟩ : ∃ p, f m = p := ⟨_, rfl⟩
 rw [hfm] at hlook
 have HF := Lib.hid hfm
 clear hfm
 simp only [pairVal] at hlook
 by_cases h1 : st = 1
 · have e1 : (st == 1) = true := by simp [h1]
   have HQ : Hid (snHold (g, st, m, q) f = (decide (m = 0), f)) := Lib.hid (by unfold snHold; rw [if_pos (.inl h1)])
   have HD : Hid ((m == 0) = decide (m = 0)) := Lib.hid (by by_cases hm0 : m = 0 <;> simp [hm0])
   clear h1 hlook
   go_enter Tryd.func58, Tryd.ntmps58
   go_wp2
   go_ret
   rw [HQ.out]
   exact ⟨rfl, (H.out.ext ((Ext.refl w).alloc _)).mono (by omega), Upd.ext ((Ext.refl w).alloc _)⟩
 · by_cases h3 : st = 3
   · have e1 : (st == 1) = false := by simp [h1]
     have e3 : (st == 3) = true := by simp [h3]
     have HQ : Hid (snHold (g, st, m, q) f = (decide (m = 0), f)) := Lib.hid (by unfold snHold; rw [if_pos (.inr h3)])
     have HD : Hid ((m == 0) = decide (m = 0)) := Lib.hid (by by_cases hm0 : m = 0 <;> simp [hm0])
     clear h1 h3 hlook
     go_enter Tryd.func58, Tryd.ntmps58
     go_wp2
     go_ret
     rw [HQ.out]
     exact ⟨rfl, (H.out.ext ((Ext.refl w).alloc _)).mono (by omega), Upd.ext ((Ext.refl w).alloc _)⟩
   · have e1 : (st == 1) = false := by simp [h1]
     have e3 : (st == 3) = false := by simp [h3]
     have HQ0 : Hid (snHold (g, st, m, q) f = if m = 0 ∨ 0 < c then (false, f) else ((decide (st = 2) && decide (a = 1)) || (decide (st = 4) && decide (a = 0)), Hold.put f m (a, 1))) := Lib.hid (by unfold snHold; simp only; rw [if_neg (by omega), HF.out])
     by_cases hm0 : m = 0
     · have e0 : (m == 0) = true := by simp [hm0]
       have HQ : Hid (snHold (g, st, m, q) f = (false, f)) := Lib.hid (by rw [HQ0.out, if_pos (.inl hm0)])
       clear h1 h3 hm0
       go_enter Tryd.func58, Tryd.ntmps58
       go_wp2
       go_ret
       rw [HQ.out]
       exact ⟨rfl, (H.out.ext (((Ext.refl w).alloc _).alloc _)).mono (by omega), Upd.ext (((Ext.refl w).alloc _).alloc _)⟩
     · have e0 : (m == 0) = false := by simp [hm0]
       by_cases hc : 0 < c
       · have HQ : Hid (snHold (g, st, m, q) f = (false, f)) := Lib.hid (by rw [HQ0.out, if_pos (.inr hc)])
         clear h1 h3 hm0
         go_enter Tryd.func58, Tryd.ntmps58
         go_wp2
         go_ret
         rw [HQ.out]
         exact ⟨rfl, (H.out.ext (((Ext.refl w).alloc _).alloc _)).mono (by omega), Upd.ext (((Ext.refl w).alloc _).alloc _)⟩
       · have HQ : Hid (snHold (g, st, m, q) f = ((decide (st = 2) && decide (a = 1)) || (decide (st = 4) && decide (a = 0)), Hold.put f m (a, 1))) := Lib.hid (by rw [HQ0.out, if_neg (by omega)])
         obtain ⟨w3, hr3, hm3, hg3⟩ := (H.out.ext (((Ext.refl w).alloc (.cells #[.int .i64 g, .int .i64 st, .int .i64 m, .int .i64 q] 49)).alloc (.cells #[.int .i64 a, .int .i64 c] 105))).store (t := 82) (e := 105) Tryd.underlying3 Tryd.underlying82 (by unfold maxLen; omega) m HM.out (a, 1)
         have HR3 := Lib.hid hr3
         have HM3 := Lib.hid hm3
         have HU3 : Hid (Upd b w w3) := Lib.hid (Upd.trans (Upd.ext (((Ext.refl w).alloc _).alloc _)) hg3)
         have hb1 := Upd.blk hg3 (blk_alloc (blk_new w (.cells #[.int .i64 g, .int .i64 st, .int .i64 m, .int .i64 q] 49)) (.cells #[.int .i64 a, .int .i64 c] 105)) (by omega)
         have hb2 : w3.heap[w.heap.size + 1]? = some (.cells #[.int .i64 a, .int .i64 c] 105 (0, 0)) := Upd.blk hg3 (by have := blk_new (w.alloc (.cells #[.int .i64 g, .int .i64 st, .int .i64 m, .int .i64 q] 49)) (.cells #[.int .i64 a, .int .i64 c] 105); rwa [World.size_alloc] at this) (by omega)
         have HB1 := Lib.hid hb1
         have HB2 := Lib.hid hb2
         clear hr3 hm3 hg3 hb1 hb2 h1 h3 hm0
         have key : ∀ r, ((decide (st = 2) && decide (a = 1)) || (decide (st = 4) && decide (a = 0))) = r → MapAt Tryd.prog 3 w3 b (n + 1) (Hold.put f m (a, 1)) → HoldPost b n (snHold (g, st, m, q) f) w (.returned (.bool r)) w3 := fun r hr hmm => by
          rw [HQ.out, hr]; exact ⟨rfl, hmm, HU3.out⟩
         have KEY := Lib.hid key
         clear key
         have hcase : (st = 2 ∧ a = 1) ∨ (st = 2 ∧ a ≠ 1) ∨ (st ≠ 2 ∧ st = 4 ∧ a = 0) ∨ (st ≠ 2 ∧ st = 4 ∧ a ≠ 0) ∨ (st ≠ 2 ∧ st ≠ 4) := by omega
         rcases hcase with ⟨k1, k2⟩ | ⟨k1, k2⟩ | ⟨k1, k2, k3⟩ | ⟨k1, k2, k3⟩ | ⟨k1, k2⟩
         · have b1 : (st == 2) = true := by simp [k1]
           have b2 : (a == 1) = true := by simp [k2]
           have K := Lib.hid (KEY.out true (by simp [k1, k2]) HM3.out)
           clear k1 k2
           (try clear k3)
           have p1 := blk_cell HB1.out 1 (.int .i64 st) rfl
           have p2 := blk_cell HB2.out 0 (.int .i64 a) rfl
           go_enter Tryd.func58, Tryd.ntmps58
           go_wp2_with (at_mapUpdate; refine wpList_mapUpdate_run rfl _ _ _ 82 rfl (.map (some b)) (.int .i64 m) (pairVal (a, 1)) rfl rfl rfl HR3.out ?_)
           go_ret
           exact K.out
         · have b1 : (st == 2) = true := by simp [k1]
           have b2 : (a == 1) = false := by simp [k2]
           have b4 : (st == 4) = false := by simp [k1]
           have K := Lib.hid (KEY.out false (by simp [k1, k2]) HM3.out)
           clear k1 k2
           (try clear k3)
           have p1 := blk_cell HB1.out 1 (.int .i64 st) rfl
           have p2 := blk_cell HB2.out 0 (.int .i64 a) rfl
           go_enter Tryd.func58, Tryd.ntmps58
           go_wp2_with (at_mapUpdate; refine wpList_mapUpdate_run rfl _ _ _ 82 rfl (.map (some b)) (.int .i64 m) (pairVal (a, 1)) rfl rfl rfl HR3.out ?_)
           go_ret
           exact K.out
         · have b1 : (st == 2) = false := by simp [k1]
           have b2 : (st == 4) = true := by simp [k2]
           have b3 : (a == 0) = true := by simp [k3]
           have K := Lib.hid (KEY.out true (by simp [k2, k3]) HM3.out)
           clear k1 k2
           (try clear k3)
           have p1 := blk_cell HB1.out 1 (.int .i64 st) rfl
           have p2 := blk_cell HB2.out 0 (.int .i64 a) rfl
           go_enter Tryd.func58, Tryd.ntmps58
           go_wp2_with (at_mapUpdate; refine wpList_mapUpdate_run rfl _ _ _ 82 rfl (.map (some b)) (.int .i64 m) (pairVal (a, 1)) rfl rfl rfl HR3.out ?_)
           go_ret
           exact K.out
         · have b1 : (st == 2) = false := by simp [k1]
           have b2 : (st == 4) = true := by simp [k2]
           have b3 : (a == 0) = false := by simp [k3]
           have K := Lib.hid (KEY.out false (by simp [k2, k3]) HM3.out)
           clear k1 k2
           (try clear k3)
           have p1 := blk_cell HB1.out 1 (.int .i64 st) rfl
           have p2 := blk_cell HB2.out 0 (.int .i64 a) rfl
           go_enter Tryd.func58, Tryd.ntmps58
           go_wp2_with (at_mapUpdate; refine wpList_mapUpdate_run rfl _ _ _ 82 rfl (.map (some b)) (.int .i64 m) (pairVal (a, 1)) rfl rfl rfl HR3.out ?_)
           go_ret
           exact K.out
         · have b1 : (st == 2) = false := by simp [k1]
           have b2 : (st == 4) = false := by simp [k2]
           have K := Lib.hid (KEY.out false (by simp [k1, k2]) HM3.out)
           clear k1 k2
           (try clear k3)
           have p1 := blk_cell HB1.out 1 (.int .i64 st) rfl
           have p2 := blk_cell HB2.out 0 (.int .i64 a) rfl
           go_enter Tryd.func58, Tryd.ntmps58
           go_wp2_with (at_mapUpdate; refine wpList_mapUpdate_run rfl _ _ _ 82 rfl (.map (some b)) (.int .i64 m) (pairVal (a, 1)) rfl rfl rfl HR3.out ?_)
           go_ret
           exact K.out
open Go.RowKit Go.Maps
theorem ints_arr (v : World) (xs : List Int) : IntsAt (v.alloc (.cells (xs.map (Value.int .i64)).toArray 3)) (.slice (some ⟨v.heap.size, 0, none⟩) xs.length xs.length) xs := by
 refine ⟨_, _, rfl, fun _ => ⟨v.heap.size, 0, rfl, by simp, fun j x hj => ?_⟩⟩
 refine blk_cell (blk_new v _) _ _ ?_
 rw [List.getElem?_toArray, Nat.zero_add, List.getElem?_map, hj]
 rfl
theorem ints_arr2 (v : World) (g : Nat) (a b : Int) (hg : g = v.heap.size) : IntsAt (v.alloc (.cells #[.int .i64 a, .int .i64 b] 3)) (.slice (some ⟨g, 0, none⟩) 2 2) [a, b] := by subst hg; exact ints_arr v [a, b]
theorem ints_arr4 (v : World) (g : Nat) (a b c d : Int) (hg : g = v.heap.size) : IntsAt (v.alloc (.cells #[.int .i64 a, .int .i64 b, .int .i64 c, .int .i64 d] 3)) (.slice (some ⟨g, 0, none⟩) 4 4) [a, b, c, d] := by subst hg; exact ints_arr v [a, b, c, d]
theorem snNum_in {x : Int} (h : snNum x = true) : i64in x := by have := (snNum_iff x).1 h; unfold i64in; omega
theorem snfield (a c : Int) (w : World) : (Instr.field 105 (.agg #[.int .i64 a, .int .i64 c]) 0).run Tryd.prog w = .ok (.int .i64 a) w := by kernel_rfl
def PsPost (b n : Nat) (r : Option Hold) (w : World) (e : Ending) (w' : World) : Prop := Upd b w w' ∧ ((r = none ∧ e = .returned (.bool false)) ∨ ∃ h, r = some h ∧ e = .returned (.bool true) ∧ MapAt Tryd.prog 3 w' b n h)
set_option maxRecDepth 100000 in
set_option maxHeartbeats 1000000 in
theorem snps_any (v : Value) (l : List (Int × Int)) (b n : Nat) (f : Hold) (w0 w : World) (hl : RowsAt 2 snPCells w0 v l) (hx0 : Ext w0 w) (hb0 : w0.heap.size ≤ b) (h : MapAt Tryd.prog 3 w b n f) (hn : n + l.length ≤ 100000) :
    Calls Tryd.prog 42 #[v, .map (some b)] w (PsPost b (n + l.length) (snPs l f) w) := by
 obtain ⟨A, c, rfl, hc, hA⟩ := hl
 have HA := Lib.hid hA
 have H := Lib.hid h
 have HX0 := Lib.hid hx0
 have HC := Lib.hid hc
 clear hA h hx0 hc
 go_enter Tryd.func42, Tryd.ntmps42
 go_wp2
 go_loopw [9] (fun iv wr => ∃ (k : Nat) (h : Hold), k ≤ l.length ∧ iv = .int .i64 k ∧ snPs l f = snPs (l.drop k) h ∧ MapAt Tryd.prog 3 wr b (n + k) h ∧ Upd b w wr) (fun iv _ => l.length - (intOf iv).toNat)
 case atStart => exact ⟨0, f, by omega, rfl, rfl, H.out, Upd.refl _ _⟩
 case round =>
  obtain ⟨k, hh, hk, rfl, hs, hm, hu⟩ := hrel
  have HS := Lib.hid hs
  have HM := Lib.hid hm
  have HU := Lib.hid hu
  have hbl := hm.lt
  clear hs hm hu
  by_cases hlt : k < l.length
  · obtain ⟨bb, o, rfl, hbb, hcell⟩ := HA.out (by omega)
    have hxr := (HX0.out.upd HU.out hb0)
    have hd := List.drop_eq_getElem_cons hlt
    have h0 := hcell k l[k] (List.getElem?_eq_getElem hlt)
    generalize l[k] = p at *
    obtain ⟨p0, p1⟩ := p
    have c0 : wr.cell? ⟨bb, o + k * 2, none⟩ = some (.int .i64 p0) := by rw [Below.cell hxr hbb]; exact h0 0 _ rfl
    have c1 : wr.cell? ⟨bb, o + k * 2 + 1, none⟩ = some (.int .i64 p1) := by rw [Below.cell hxr hbb]; exact h0 1 _ rfl
    have HD := Lib.hid hd
    have HST : Hid (snPs l f = snPs ((p0, p1) :: l.drop (k + 1)) hh) := Lib.hid (by rw [HS.out, hd])
    have HI : Hid (IntsAt ((wr.alloc (.cells #[.int .i64 p0, .int .i64 p1] 61)).alloc (.cells #[.int .i64 p0, .int .i64 p1] 3)) (.slice (some ⟨wr.heap.size + 1, 0, none⟩) 2 2) [p0, p1]) := Lib.hid (ints_arr2 _ _ _ _ (by simp))
    have HX2 : Hid (Ext wr ((wr.alloc (.cells #[.int .i64 p0, .int .i64 p1] 61)).alloc (.cells #[.int .i64 p0, .int .i64 p1] 3))) := Lib.hid (((Ext.refl wr).alloc _).alloc _)
    clear hcell hd h0 hxr
    obtain ⟨r, hr⟩ : ∃ r, [p0, p1].all snNum = r := ⟨_, rfl⟩
    have HR := Lib.hid hr
    clear hr
    go_wp2_with fail
    refine (snnum_any _ [p0, p1] r HR.out _ HI.out (by simp)).mono ?_
    rintro e w2 ⟨rfl, rfl⟩
    cases r with
    | false =>
     have HE : Hid (snPs l f = none) := Lib.hid (by
      have := HR.out
      simp only [List.all_cons, List.all_nil, Bool.and_true] at this
      rw [HST.out]; unfold snPs; rw [this]; rfl)
     go_wp2
     go_ret
     exact ⟨HU.out.trans (Upd.ext HX2.out), .inl ⟨HE.out, rfl⟩⟩
    | true =>
     have hnn : snNum p0 = true ∧ snNum p1 = true := by
      have := HR.out
      simpa using this
     have HIN := Lib.hid (snNum_in hnn.1)
     have HST2 : Hid (snPs l f = if p0 = 0 then snPs (l.drop (k + 1)) hh else if 0 < (hh p0).1 then none else snPs (l.drop (k + 1)) (hh.put p0 (1, 0))) := Lib.hid (by
      rw [HST.out]; conv => lhs; unfold snPs
      simp only [hnn.1, hnn.2, Bool.and_true, if_true])
     clear hnn
     by_cases hp0 : p0 = 0
     · have e0 : (p0 == 0) = true := by simp [hp0]
       have HE : Hid (snPs l f = snPs (l.drop (k + 1)) hh) := Lib.hid (by rw [HST2.out, if_pos hp0])
       clear hp0
       go_wp2
       go_roundw
       case rel => exact ⟨k + 1, hh, by omega, by go_num, HE.out, (HM.out.ext HX2.out).mono (by omega), HU.out.trans (Upd.ext HX2.out)⟩
       case measure => simp [intOf]; omega
     · have e0 : (p0 == 0) = false := by simp [hp0]
       have HST3 : Hid (snPs l f = if 0 < (hh p0).1 then none else snPs (l.drop (k + 1)) (hh.put p0 (1, 0))) := Lib.hid (by rw [HST2.out, if_neg hp0])
       have hlook := (HM.out.ext HX2.out).look Tryd.underlying3 Tryd.underlying82 (snzero _) p0 HIN.out
       obtain ⟨⟨a, c9⟩, hfm⟩ : ∃ p, hh p0 = p := ⟨_, rfl⟩
       rw [hfm] at hlook
       simp only [pairVal] at hlook
       have HF := Lib.hid hfm
       have hfield := snfield a c9
       clear hp0 hfm
       by_cases ha : 0 < a
       · have HE : Hid (snPs l f = none) := Lib.hid (by rw [HST3.out, HF.out, if_pos ha])
         go_wp2
         go_ret
         exact ⟨HU.out.trans (Upd.ext HX2.out), .inl ⟨HE.out, rfl⟩⟩
       · have HE : Hid (snPs l f = snPs (l.drop (k + 1)) (hh.put p0 (1, 0))) := Lib.hid (by rw [HST3.out, HF.out, if_neg ha])
         obtain ⟨w3, hr3, hm3, hg3⟩ := (HM.out.ext HX2.out).store (t := 82) (e := 105) Tryd.underlying3 Tryd.underlying82 (by unfold maxLen; omega) p0 HIN.out (1, 0)
         have HR3 := Lib.hid hr3
         have HM3 := Lib.hid hm3
         have HU3 : Hid (Upd b w w3) := Lib.hid (HU.out.trans (Upd.trans (Upd.ext HX2.out) hg3))
         clear hr3 hm3 hg3
         go_wp2_with (at_mapUpdate; refine wpList_mapUpdate_run rfl _ _ _ 82 rfl (.map (some b)) (.int .i64 p0) (pairVal (1, 0)) rfl rfl rfl HR3.out ?_)
         go_roundw
         case rel => exact ⟨k + 1, hh.put p0 (1, 0), by omega, by go_num, HE.out, HM3.out, HU3.out⟩
         case measure => simp [intOf]; omega
  · obtain rfl : k = l.length := by omega
    have HE : Hid (snPs l f = some hh) := Lib.hid (by rw [HS.out, List.drop_length]; rfl)
    go_wp2
    go_ret
    exact ⟨HU.out, .inr ⟨hh, HE.out, rfl, HM.out⟩⟩
open Go.RowKit Go.Maps
set_option maxRecDepth 100000 in
set_option maxHeartbeats 1000000 in
theorem sngs_any (v : Value) (l : List Gs4) (b n : Nat) (f : Hold) (w0 w : World) (hl : RowsAt 4 snGCells w0 v l) (hx0 : Ext w0 w) (hb0 : w0.heap.size ≤ b) (h : MapAt Tryd.prog 3 w b n f) (hn : n + l.length ≤ 100000) :
    Calls Tryd.prog 43 #[v, .map (some b)] w fun e w' => e = .returned (.bool (snGs l 0 f)) ∧ Upd b w w' := by
 obtain ⟨A, c, rfl, hc, hA⟩ := hl
 have HA := Lib.hid hA
 have H := Lib.hid h
 have HX0 := Lib.hid hx0
 have HC := Lib.hid hc
 clear hA h hx0 hc
 go_enter Tryd.func43, Tryd.ntmps43
 go_wp2
 go_loopw [5, 10] (fun lv iv wr => ∃ (k : Nat) (h : Hold) (last : Int), k ≤ l.length ∧ iv = .int .i64 k ∧ lv = .int .i64 last ∧ snGs l 0 f = snGs (l.drop k) last h ∧ MapAt Tryd.prog 3 wr b (n + k) h ∧ Upd b w wr) (fun _ iv _ => l.length - (intOf iv).toNat)
 case atStart => exact ⟨0, f, 0, by omega, rfl, rfl, rfl, H.out, Upd.refl _ _⟩
 case round =>
  obtain ⟨k, hh, last, hk, rfl, rfl, hs, hm, hu⟩ := hrel
  have HS := Lib.hid hs
  have HM := Lib.hid hm
  have HU := Lib.hid hu
  have hbl := hm.lt
  clear hs hm hu
  by_cases hlt : k < l.length
  · obtain ⟨bb, o, rfl, hbb, hcell⟩ := HA.out (by omega)
    have hxr := (HX0.out.upd HU.out hb0)
    have hd := List.drop_eq_getElem_cons hlt
    have h0 := hcell k l[k] (List.getElem?_eq_getElem hlt)
    generalize l[k] = p at *
    obtain ⟨g, st, m, q⟩ := p
    have c0 : wr.cell? ⟨bb, o + k * 4, none⟩ = some (.int .i64 g) := by rw [Below.cell hxr hbb]; exact h0 0 _ rfl
    have c1 : wr.cell? ⟨bb, o + k * 4 + 1, none⟩ = some (.int .i64 st) := by rw [Below.cell hxr hbb]; exact h0 1 _ rfl
    have c2 : wr.cell? ⟨bb, o + k * 4 + 2, none⟩ = some (.int .i64 m) := by rw [Below.cell hxr hbb]; exact h0 2 _ rfl
    have c3 : wr.cell? ⟨bb, o + k * 4 + 3, none⟩ = some (.int .i64 q) := by rw [Below.cell hxr hbb]; exact h0 3 _ rfl
    have HST : Hid (snGs l 0 f = snGs ((g, st, m, q) :: l.drop (k + 1)) last hh) := Lib.hid (by rw [HS.out, hd])
    have HI : Hid (IntsAt ((wr.alloc (.cells #[.int .i64 g, .int .i64 st, .int .i64 m, .int .i64 q] 49)).alloc (.cells #[.int .i64 g, .int .i64 st, .int .i64 m, .int .i64 q] 3)) (.slice (some ⟨wr.heap.size + 1, 0, none⟩) 4 4) [g, st, m, q]) := Lib.hid (ints_arr4 _ _ _ _ _ _ (by simp))
    have HX2 : Hid (Ext wr ((wr.alloc (.cells #[.int .i64 g, .int .i64 st, .int .i64 m, .int .i64 q] 49)).alloc (.cells #[.int .i64 g, .int .i64 st, .int .i64 m, .int .i64 q] 3))) := Lib.hid (((Ext.refl wr).alloc _).alloc _)
    have HBX : Hid (((wr.alloc (.cells #[.int .i64 g, .int .i64 st, .int .i64 m, .int .i64 q] 49)).alloc (.cells #[.int .i64 g, .int .i64 st, .int .i64 m, .int .i64 q] 3)).heap[wr.heap.size]? = some (.cells #[.int .i64 g, .int .i64 st, .int .i64 m, .int .i64 q] 49 (0, 0))) := Lib.hid (blk_alloc (blk_new wr (.cells #[.int .i64 g, .int .i64 st, .int .i64 m, .int .i64 q] 49)) (.cells #[.int .i64 g, .int .i64 st, .int .i64 m, .int .i64 q] 3))
    clear hcell hd h0 hxr
    obtain ⟨r, hr⟩ : ∃ r, [g, st, m, q].all snNum = r := ⟨_, rfl⟩
    have HR := Lib.hid hr
    clear hr
    go_wp2_with fail
    refine (snnum_any _ [g, st, m, q] r HR.out _ HI.out (by simp)).mono ?_
    rintro e w2 ⟨rfl, rfl⟩
    clear c0 c1 c2 c3
    cases r with
    | false =>
     have HE : Hid (snGs l 0 f = false) := Lib.hid (by
      have := HR.out
      simp only [List.all_cons, List.all_nil, Bool.and_true] at this
      rw [HST.out]; unfold snGs; simp only
      rw [show (snNum g && snNum st && snNum m && snNum q) = false from by rw [← this]; simp [Bool.and_assoc]]
      rfl)
     go_wp2
     go_ret
     exact ⟨(by rw [HE.out]; first | done | rfl), HU.out.trans (Upd.ext HX2.out)⟩
    | true =>
     have hnn : snNum g = true ∧ snNum st = true ∧ snNum m = true ∧ snNum q = true := by
      have := HR.out
      simpa using this
     have HIN := Lib.hid (snNum_in hnn.2.2.1)
     have HST2 : Hid (snGs l 0 f = if decide (last < g) && (snHold (g, st, m, q) hh).1 then snGs (l.drop (k + 1)) g (snHold (g, st, m, q) hh).2 else false) := Lib.hid (by
      rw [HST.out]; conv => lhs; unfold snGs
      simp only [hnn.1, hnn.2.1, hnn.2.2.1, hnn.2.2.2, Bool.and_true, Bool.true_and])
     clear hnn
     by_cases hgl : g ≤ last
     · have HE : Hid (snGs l 0 f = false) := Lib.hid (by rw [HST2.out, decide_eq_false (by omega)]; rfl)
       go_wp2
       go_ret
       exact ⟨(by rw [HE.out]; first | done | rfl), HU.out.trans (Upd.ext HX2.out)⟩
     · have hgl2 : last < g := by omega
       clear hgl
       obtain ⟨⟨r2, h2⟩, hr2⟩ : ∃ p, snHold (g, st, m, q) hh = p := ⟨_, rfl⟩
       have HSH := Lib.hid hr2
       clear hr2
       have HST3 : Hid (snGs l 0 f = if r2 = true then snGs (l.drop (k + 1)) g h2 else false) := Lib.hid (by rw [HST2.out, HSH.out, decide_eq_true hgl2]; rfl)
       go_wp2_with fail
       refine (snhold_any g st m q b (n + k) hh _ (HM.out.ext HX2.out) (by omega) HIN.out).mono ?_
       rintro e w3 ⟨he, hm3, hu3⟩
       rw [HSH.out] at he hm3
       subst he
       have HM3 := Lib.hid hm3
       have HU3 : Hid (Upd b w w3) := Lib.hid (HU.out.trans ((Upd.ext HX2.out).trans hu3))
       have p0 := blk_cell (Upd.blk hu3 HBX.out (by omega)) 0 (.int .i64 g) rfl
       clear hm3 hu3
       simp only
       cases r2 with
       | false =>
        have HE : Hid (snGs l 0 f = false) := Lib.hid (by rw [HST3.out]; rfl)
        go_wp2
        go_ret
        exact ⟨(by rw [HE.out]; first | done | rfl), HU3.out⟩
       | true =>
        have HE : Hid (snGs l 0 f = snGs (l.drop (k + 1)) g h2) := Lib.hid (by rw [HST3.out, if_pos rfl])
        go_wp2
        go_roundw
        case rel => exact ⟨k + 1, h2, g, by omega, by go_num, rfl, HE.out, HM3.out, HU3.out⟩
        case measure => simp [intOf]; omega
  · obtain rfl : k = l.length := by omega
    have HE : Hid (snGs l 0 f = true) := Lib.hid (by rw [HS.out, List.drop_length]; rfl)
    go_wp2
    go_ret
    exact ⟨(by rw [HE.out]; first | done | rfl), HU.out⟩
def SnAt (w : World) (v : Value) (s : Sn) : Prop := ∃ A c B d, v = .agg #[.int .i64 s.time, .slice A s.ps.length c, .slice B s.gs.length d] ∧ RowsAt 2 snPCells w (.slice A s.ps.length c) s.ps ∧ RowsAt 4 snGCells w (.slice B s.gs.length d) s.gs
theorem SnAt.ext {w w' : World} {v : Value} {s : Sn} (h : SnAt w v s) (hx : Ext w w') : SnAt w' v s := by
 obtain ⟨A, c, B, d, h1, h2, h3⟩ := h
 exact ⟨A, c, B, d, h1, h2.ext hx, h3.ext hx⟩
set_option maxRecDepth 100000 in
set_option maxHeartbeats 1000000 in
theorem snmay_any (v : Value) (s : Sn) (w : World) (hs : SnAt w v s) (hp : s.ps.length ≤ 10000) (hg : s.gs.length ≤ 10000) :
    Calls Tryd.prog 31 #[v] w fun e w' => e = .returned (.bool s.may) ∧ Ext w w' := by
 obtain ⟨A, c, B, d, rfl, h2, h3⟩ := hs
 obtain ⟨time, ps, gs⟩ := s
 simp only at h2 h3 hp hg ⊢
 have H2 := Lib.hid h2
 have H3 := Lib.hid h3
 have HI : Hid (IntsAt ((w.alloc (.cells #[.int .i64 time, .slice A ps.length c, .slice B gs.length d] 25)).alloc (.cells #[.int .i64 time] 3)) (.slice (some ⟨w.heap.size + 1, 0, none⟩) 1 1) [time]) := Lib.hid (by have := ints_arr (w.alloc (.cells #[.int .i64 time, .slice A ps.length c, .slice B gs.length d] 25)) [time]; rw [World.size_alloc] at this; exact this)
 have HX2 : Hid (Ext w ((w.alloc (.cells #[.int .i64 time, .slice A ps.length c, .slice B gs.length d] 25)).alloc (.cells #[.int .i64 time] 3))) := Lib.hid (((Ext.refl w).alloc _).alloc _)
 have HBX : Hid (((w.alloc (.cells #[.int .i64 time, .slice A ps.length c, .slice B gs.length d] 25)).alloc (.cells #[.int .i64 time] 3)).heap[w.heap.size]? = some (.cells #[.int .i64 time, .slice A ps.length c, .slice B gs.length d] 25 (0, 0))) := Lib.hid (blk_alloc (blk_new w (.cells #[.int .i64 time, .slice A ps.length c, .slice B gs.length d] 25)) (.cells #[.int .i64 time] 3))
 have HMAY : Hid (Sn.may ⟨time, ps, gs⟩ = (snNum time && decide (ps.length ≤ 64) && decide (gs.length ≤ 1000) && (match snPs ps (fun _ => (0, 0)) with | none => false | some h => snGs gs 0 h))) := Lib.hid rfl
 clear h2 h3
 obtain ⟨r, hr⟩ : ∃ r, [time].all snNum = r := ⟨_, rfl⟩
 have HR := Lib.hid hr
 have HRT : Hid (snNum time = r) := Lib.hid (by simpa using hr)
 clear hr
 generalize hres : Sn.may ⟨time, ps, gs⟩ = res at *
 clear hres
 have hmk : ∀ w, (Instr.makeMap 82 none).run Tryd.prog w = .ok (.map (some w.heap.size)) (w.alloc (.map #[] 0)) := fun w => by kernel_rfl
 cases r with
 | false =>
  have HE : Hid (res = false) := Lib.hid (by rw [HMAY.out, HRT.out]; rfl)
  go_enter Tryd.func31, Tryd.ntmps31
  go_wp2_with fail
  refine (snnum_any _ [time] false HR.out _ HI.out (by simp)).mono ?_
  rintro e w2 ⟨rfl, rfl⟩
  go_wp2
  go_ret
  exact ⟨(by rw [HE.out]; first | done | rfl), HX2.out⟩
 | true =>
  by_cases h64 : ps.length ≤ 64
  · by_cases h1000 : gs.length ≤ 1000
    · have HE : Hid (res = (match snPs ps (fun _ => (0, 0)) with | none => false | some h => snGs gs 0 h)) := Lib.hid (by rw [HMAY.out, HRT.out, decide_eq_true h64, decide_eq_true h1000]; rfl)
      have i64 : (ps.length : Int) ≤ 64 := by omega
      have i1000 : (gs.length : Int) ≤ 1000 := by omega
      obtain ⟨rp, hrp⟩ : ∃ p, snPs ps (fun _ => (0, 0)) = p := ⟨_, rfl⟩
      have HRP := Lib.hid hrp
      have HMZ := Lib.hid (MapAt.made (P := Tryd.prog) (k := 3) ((w.alloc (.cells #[.int .i64 time, .slice A ps.length c, .slice B gs.length d] 25)).alloc (.cells #[.int .i64 time] 3)))
      have hsz3 : ((w.alloc (.cells #[.int .i64 time, .slice A ps.length c, .slice B gs.length d] 25)).alloc (.cells #[.int .i64 time] 3)).heap.size = w.heap.size + 2 := by simp
      have HSZ := Lib.hid hsz3
      clear hrp hsz3
      go_enter Tryd.func31, Tryd.ntmps31
      go_wp2_with fail
      refine (snnum_any _ [time] true HR.out _ HI.out (by simp)).mono ?_
      rintro e w2 ⟨rfl, rfl⟩
      go_wp2_with fail
      have hM : MapAt Tryd.prog 3 (((w.alloc (.cells #[.int .i64 time, .slice A ps.length c, .slice B gs.length d] 25)).alloc (.cells #[.int .i64 time] 3)).alloc (.map #[] 0)) (w.heap.size + 1 + 1) 0 (fun _ => (0, 0)) := by have := HMZ.out; rwa [HSZ.out] at this
      refine (snps_any _ ps (w.heap.size + 1 + 1) 0 (fun _ => (0, 0)) w _ H2.out (HX2.out.alloc _) (by omega) hM (by omega)).mono ?_
      rintro e w4 ⟨hu4, hpost⟩
      have hu4' : Ext w w4 := (HX2.out.alloc _).upd hu4 (by omega)
      have hb4 := Upd.blk hu4 (blk_alloc HBX.out (.map #[] 0)) (by omega)
      have q2 := blk_cell hb4 2 (.slice B gs.length d) rfl
      have HX4 := Lib.hid hu4'
      rcases hpost with ⟨hn1, rfl⟩ | ⟨h', hn1, rfl, hm4⟩
      · have HE2 : Hid (res = false) := Lib.hid (by rw [HE.out, hn1])
        clear hu4 hu4' hb4 hn1 hM
        go_wp2
        go_ret
        exact ⟨(by rw [HE2.out]; first | done | rfl), HX4.out⟩
      · have HE2 : Hid (res = snGs gs 0 h') := Lib.hid (by rw [HE.out, hn1])
        have HM4 := Lib.hid hm4
        clear hu4 hu4' hb4 hn1 hm4 hM
        go_wp2_with fail
        refine (sngs_any _ gs (w.heap.size + 1 + 1) (0 + ps.length) h' w _ H3.out HX4.out (by omega) HM4.out (by omega)).mono ?_
        rintro e w5 ⟨rfl, hu5⟩
        have HX5 := Lib.hid (HX4.out.upd hu5 (by omega))
        clear hu5
        go_wp2
        go_ret
        exact ⟨(by rw [HE2.out]; first | done | rfl), HX5.out⟩
    · have HE : Hid (res = false) := Lib.hid (by rw [HMAY.out, HRT.out, decide_eq_false h1000]; simp)
      have i64 : (ps.length : Int) ≤ 64 := by omega
      have i1000 : 1000 < (gs.length : Int) := by omega
      go_enter Tryd.func31, Tryd.ntmps31
      go_wp2_with fail
      refine (snnum_any _ [time] true HR.out _ HI.out (by simp)).mono ?_
      rintro e w2 ⟨rfl, rfl⟩
      go_wp2
      go_ret
      exact ⟨(by rw [HE.out]; first | done | rfl), HX2.out⟩
  · have HE : Hid (res = false) := Lib.hid (by rw [HMAY.out, HRT.out, decide_eq_false h64]; simp)
    have i64 : 64 < (ps.length : Int) := by omega
    go_enter Tryd.func31, Tryd.ntmps31
    go_wp2_with fail
    refine (snnum_any _ [time] true HR.out _ HI.out (by simp)).mono ?_
    rintro e w2 ⟨rfl, rfl⟩
    go_wp2
    go_ret
    exact ⟨(by rw [HE.out]; first | done | rfl), HX2.out⟩
open Go.RowKit Go.Maps
def cntP (l : List (Int × Int)) (m : Int) : Nat := l.countP fun p => p.1 == m
def cntG (l : List Gs4) (m : Int) : Nat := l.countP fun g => g.2.2.1 == m
theorem cntP_next {l : List (Int × Int)} {m : Int} {k : Nat} (h : k < l.length) : cntP (l.take (k + 1)) m = cntP (l.take k) m + if (l[k].1 == m) = true then 1 else 0 := by
 unfold cntP
 rw [List.take_succ_eq_append_getElem h, List.countP_append]
 simp [List.countP_cons]
theorem cntG_next {l : List Gs4} {m : Int} {k : Nat} (h : k < l.length) : cntG (l.take (k + 1)) m = cntG (l.take k) m + if (l[k].2.2.1 == m) = true then 1 else 0 := by
 unfold cntG
 rw [List.take_succ_eq_append_getElem h, List.countP_append]
 simp [List.countP_cons]
theorem cntP_le (l : List (Int × Int)) (m : Int) : cntP l m ≤ l.length := List.countP_le_length
theorem cntG_le (l : List Gs4) (m : Int) : cntG l m ≤ l.length := List.countP_le_length
set_option maxRecDepth 100000 in
set_option maxHeartbeats 1000000 in
theorem rsnholds_any (v : Value) (l : List (Int × Int)) (m : Int) (w : World) (h : RowsAt 2 snPCells w v l) (hn : l.length ≤ 100000) :
    Calls Tryd.prog 51 #[v, .int .i64 m] w fun e w' => e = .returned (.int .i64 (cntP l m : Nat)) ∧ w = w' := by
 obtain ⟨A, c, rfl, hc, hA⟩ := h
 have HA := Lib.hid hA
 clear hA hc
 go_enter Tryd.func51, Tryd.ntmps51
 go_wp2
 go_loop [5, 6] (fun nv iv => ∃ (k n : Nat), k ≤ l.length ∧ iv = .int .i64 k ∧ nv = .int .i64 n ∧ n = cntP (l.take k) m) (fun _ iv => l.length - (intOf iv).toNat)
 case atStart => exact ⟨0, 0, by omega, rfl, rfl, rfl⟩
 case round =>
  obtain ⟨k, n, hk, rfl, rfl, hcn⟩ := hrel
  have hnl : n ≤ 100000 := by have := cntP_le (l.take k) m; rw [List.length_take] at this; omega
  have HCN := Lib.hid hcn
  clear hcn
  by_cases hlt : k < l.length
  · obtain ⟨b, o, rfl, hb, hcell⟩ := HA.out (by omega)
    have h0 := hcell k l[k] (List.getElem?_eq_getElem hlt) 0 _ rfl
    have HN := Lib.hid (cntP_next (m := m) hlt)
    simp only [Nat.add_zero] at h0
    clear hcell
    generalize l[k].1 = x at *
    cases hxm : (x == m) with
    | true =>
     have HE : Hid (n + 1 = cntP (l.take (k + 1)) m) := Lib.hid (by rw [HN.out, hxm, ← HCN.out]; rfl)
     go_wp2
     go_round
     case rel => exact ⟨k + 1, n + 1, by omega, by go_num, by go_num, HE.out⟩
     case measure => simp [intOf]; omega
    | false =>
     have HE : Hid (n = cntP (l.take (k + 1)) m) := Lib.hid (by rw [HN.out, hxm, ← HCN.out]; rfl)
     go_wp2
     go_round
     case rel => exact ⟨k + 1, n, by omega, by go_num, rfl, HE.out⟩
     case measure => simp [intOf]; omega
  · obtain rfl : k = l.length := by omega
    have HE : Hid (n = cntP l m) := Lib.hid (by rw [HCN.out, List.take_length])
    go_wp2
    go_ret
    exact ⟨by rw [← HE.out]; first | done | rfl, rfl⟩
set_option maxRecDepth 100000 in
set_option maxHeartbeats 1000000 in
theorem rhas_any (v : Value) (l : List Gs4) (m : Int) (w : World) (h : RowsAt 4 snGCells w v l) (hn : l.length ≤ 100000) :
    Calls Tryd.prog 72 #[v, .int .i64 m] w fun e w' => e = .returned (.int .i64 (cntG l m : Nat)) ∧ w = w' := by
 obtain ⟨A, c, rfl, hc, hA⟩ := h
 have HA := Lib.hid hA
 clear hA hc
 go_enter Tryd.func72, Tryd.ntmps72
 go_wp2
 go_loop [5, 6] (fun nv iv => ∃ (k n : Nat), k ≤ l.length ∧ iv = .int .i64 k ∧ nv = .int .i64 n ∧ n = cntG (l.take k) m) (fun _ iv => l.length - (intOf iv).toNat)
 case atStart => exact ⟨0, 0, by omega, rfl, rfl, rfl⟩
 case round =>
  obtain ⟨k, n, hk, rfl, rfl, hcn⟩ := hrel
  have hnl : n ≤ 100000 := by have := cntG_le (l.take k) m; rw [List.length_take] at this; omega
  have HCN := Lib.hid hcn
  clear hcn
  by_cases hlt : k < l.length
  · obtain ⟨b, o, rfl, hb, hcell⟩ := HA.out (by omega)
    have h0 := hcell k l[k] (List.getElem?_eq_getElem hlt) 2 _ rfl
    have HN := Lib.hid (cntG_next (m := m) hlt)
    clear hcell
    generalize l[k].2.2.1 = x at *
    cases hxm : (x == m) with
    | true =>
     have HE : Hid (n + 1 = cntG (l.take (k + 1)) m) := Lib.hid (by rw [HN.out, hxm, ← HCN.out]; rfl)
     go_wp2
     go_round
     case rel => exact ⟨k + 1, n + 1, by omega, by go_num, by go_num, HE.out⟩
     case measure => simp [intOf]; omega
    | false =>
     have HE : Hid (n = cntG (l.take (k + 1)) m) := Lib.hid (by rw [HN.out, hxm, ← HCN.out]; rfl)
     go_wp2
     go_round
     case rel => exact ⟨k + 1, n, by omega, by go_num, rfl, HE.out⟩
     case measure => simp [intOf]; omega
  · obtain rfl : k = l.length := by omega
    have HE : Hid (n = cntG l m) := Lib.hid (by rw [HCN.out, List.take_length])
    go_wp2
    go_ret
    exact ⟨by rw [← HE.out]; first | done | rfl, rfl⟩
open Go.RowKit Go.Maps
theorem cntP_cons (p : Int × Int) (l : List (Int × Int)) (m : Int) : cntP (p :: l) m = cntP l m + if (p.1 == m) = true then 1 else 0 := by unfold cntP; rw [List.countP_cons]
theorem cntG_cons (g : Gs4) (l : List Gs4) (m : Int) : cntG (g :: l) m = cntG l m + if (g.2.2.1 == m) = true then 1 else 0 := by unfold cntG; rw [List.countP_cons]
def Hold.ok (h : Hold) : Prop := ∀ m, ((h m).1 = 0 ∨ (h m).1 = 1) ∧ ((h m).2 = 0 ∨ (h m).2 = 1)
def snPOk (p : Int × Int) : Bool := snNum p.1 && snNum p.2
def snGOk (g : Gs4) : Bool := snNum g.1 && snNum g.2.1 && snNum g.2.2.1 && snNum g.2.2.2
theorem snPs_iff : ∀ (l : List (Int × Int)) (h : Hold), h.ok → (∀ m, (h m).2 = 0) →
    (∀ h', snPs l h = some h' → (∀ p ∈ l, snPOk p = true) ∧ (∀ m, m ≠ 0 → (cntP l m : Int) + (h m).1 ≤ 1) ∧ h'.ok ∧ (∀ m, (h' m).2 = 0) ∧ ∀ m, m ≠ 0 → (h' m).1 = (h m).1 + cntP l m) ∧
    ((∀ p ∈ l, snPOk p = true) → (∀ m, m ≠ 0 → (cntP l m : Int) + (h m).1 ≤ 1) → ∃ h', snPs l h = some h')
 | [], h, hok, h2 => by
  refine ⟨fun h' hh => ?_, fun _ _ => ⟨h, rfl⟩⟩
  simp only [snPs, Option.some.injEq] at hh
  subst hh
  refine ⟨by simp, fun m _ => ?_, hok, h2, fun m _ => by simp [cntP]⟩
  have := (hok m).1
  simp only [cntP, List.countP_nil]
  omega
 | p :: l, h, hok, h2 => by
  by_cases hn : snPOk p = true
  · have hstep : snPs (p :: l) h = if p.1 = 0 then snPs l h else if 0 < (h p.1).1 then none else snPs l (h.put p.1 (1, 0)) := by
     conv => lhs; unfold snPs
     unfold snPOk at hn
     rw [if_pos hn]
    rw [hstep]
    by_cases h0 : p.1 = 0
    · rw [if_pos h0]
      have hc : ∀ m, m ≠ 0 → cntP (p :: l) m = cntP l m := fun m hm => by rw [cntP_cons, if_neg (by simp [h0]; omega)]; rfl
      obtain ⟨ih1, ih2⟩ := snPs_iff l h hok h2
      refine ⟨fun h' hh => ?_, fun a b => ih2 (fun q hq => a q (by simp [hq])) (fun m hm => by rw [← hc m hm]; exact b m hm)⟩
      obtain ⟨a, b, c, d, e⟩ := ih1 h' hh
      exact ⟨fun q hq => by rcases List.mem_cons.1 hq with rfl | hq; exact hn; exact a q hq, fun m hm => by rw [hc m hm]; exact b m hm, c, d, fun m hm => by rw [hc m hm]; exact e m hm⟩
    · rw [if_neg h0]
      by_cases hp : 0 < (h p.1).1
      · rw [if_pos hp]
        refine ⟨fun h' hh => (by cases hh), fun a b => ?_⟩
        have := b p.1 h0
        rw [cntP_cons, if_pos (by simp)] at this
        omega
      · rw [if_neg hp]
        have hz : (h p.1).1 = 0 := by have := (hok p.1).1; omega
        have hok' : Hold.ok (h.put p.1 (1, 0)) := fun m => by
         unfold Hold.put
         split
         · exact ⟨.inr rfl, .inl rfl⟩
         · exact hok m
        have h2' : ∀ m, ((h.put p.1 (1, 0)) m).2 = 0 := fun m => by
         unfold Hold.put
         split
         · rfl
         · exact h2 m
        have hs : ∀ m, ((cntP (p :: l) m : Nat) : Int) + (h m).1 = (cntP l m : Nat) + ((h.put p.1 (1, 0)) m).1 := fun m => by
         rw [cntP_cons]
         unfold Hold.put
         by_cases hm : m = p.1
         · subst hm
           rw [if_pos (by simp), if_pos rfl, hz]
           simp
         · rw [if_neg (by simpa using Ne.symm hm), if_neg hm]
           simp
        obtain ⟨ih1, ih2⟩ := snPs_iff l (h.put p.1 (1, 0)) hok' h2'
        refine ⟨fun h' hh => ?_, fun a b => ih2 (fun q hq => a q (by simp [hq])) (fun m hm => by rw [← hs m]; exact b m hm)⟩
        obtain ⟨a, b, c, d, e⟩ := ih1 h' hh
        refine ⟨fun q hq => by rcases List.mem_cons.1 hq with rfl | hq; exact hn; exact a q hq, fun m hm => by rw [hs m]; exact b m hm, c, d, fun m hm => ?_⟩
        have h1 := e m hm
        have h3 := hs m
        omega
  · have hstep : snPs (p :: l) h = none := by
     conv => lhs; unfold snPs
     unfold snPOk at hn
     rw [if_neg hn]
    rw [hstep]
    exact ⟨fun h' hh => (by cases hh), fun a _ => absurd (a p (by simp)) hn⟩
def snGFit (c : Int → Int) (g : Gs4) : Prop := if g.2.1 = 1 ∨ g.2.1 = 3 then g.2.2.1 = 0 else g.2.2.1 ≠ 0 ∧ ((g.2.1 = 2 ∧ c g.2.2.1 = 1) ∨ (g.2.1 = 4 ∧ c g.2.2.1 = 0))
theorem snGs_iff : ∀ (l : List Gs4) (last : Int) (h : Hold), h.ok →
    (snGs l last h = true ↔ (∀ g ∈ l, snGOk g = true) ∧ (last :: l.map (·.1)).Pairwise (· < ·) ∧ (∀ g ∈ l, snGFit (fun m => (h m).1) g) ∧ ∀ m, m ≠ 0 → (cntG l m : Int) + (h m).2 ≤ 1)
 | [], last, h, hok => by
  simp only [snGs, true_iff]
  refine ⟨by simp, by simp, by simp, fun m _ => ?_⟩
  have := (hok m).2
  simp only [cntG, List.countP_nil]
  omega
 | g :: l, last, h, hok => by
  have hstep : snGs (g :: l) last h = true ↔ snGOk g = true ∧ last < g.1 ∧ (snHold g h).1 = true ∧ snGs l g.1 (snHold g h).2 = true := by
   conv => lhs; unfold snGs
   unfold snGOk
   split
   · rename_i hh
     simp only [Bool.and_eq_true, decide_eq_true_eq] at hh ⊢
     exact ⟨fun hr => ⟨hh.1.1, hh.1.2, hh.2, hr⟩, fun hr => hr.2.2.2⟩
   · rename_i hh
     simp only [Bool.and_eq_true, decide_eq_true_eq] at hh ⊢
     exact ⟨fun hr => (by cases hr), fun hr => absurd ⟨⟨hr.1, hr.2.1⟩, hr.2.2.1⟩ hh⟩
  rw [hstep]
  have hpw : (last :: (g :: l).map (·.1)).Pairwise (· < ·) ↔ last < g.1 ∧ (g.1 :: l.map (·.1)).Pairwise (· < ·) := by
   rw [List.map_cons, List.pairwise_cons]
   constructor
   · rintro ⟨a, b⟩
     exact ⟨a g.1 (by simp), b⟩
   · rintro ⟨a, b⟩
     refine ⟨fun x hx => ?_, b⟩
     rcases List.mem_cons.1 hx with rfl | hx
     · exact a
     · exact Int.lt_trans a ((List.pairwise_cons.1 b).1 x hx)
  by_cases hst : g.2.1 = 1 ∨ g.2.1 = 3
  · have hh : snHold g h = (decide (g.2.2.1 = 0), h) := by unfold snHold; rw [if_pos hst]
    rw [hh, snGs_iff l g.1 h hok, hpw]
    simp only [decide_eq_true_eq]
    have hfit : snGFit (fun m => (h m).1) g ↔ g.2.2.1 = 0 := by unfold snGFit; rw [if_pos hst]
    constructor
    · rintro ⟨a, b, c, d, e, f, k⟩
      refine ⟨fun x hx => by rcases List.mem_cons.1 hx with rfl | hx; exact a; exact d x hx, ⟨b, e⟩, fun x hx => by rcases List.mem_cons.1 hx with rfl | hx; exact hfit.2 c; exact f x hx, fun m hm => ?_⟩
      rw [cntG_cons, if_neg (by simp [c]; omega)]
      exact k m hm
    · rintro ⟨a, ⟨b, e⟩, f, k⟩
      have c := hfit.1 (f g (by simp))
      refine ⟨a g (by simp), b, c, fun x hx => a x (by simp [hx]), e, fun x hx => f x (by simp [hx]), fun m hm => ?_⟩
      have := k m hm
      rw [cntG_cons, if_neg (by simp [c]; omega)] at this
      exact this
  · by_cases h0 : g.2.2.1 = 0 ∨ 0 < (h g.2.2.1).2
    · have hh : snHold g h = (false, h) := by unfold snHold; rw [if_neg hst, if_pos h0]
      rw [hh]
      constructor
      · rintro ⟨_, _, c, _⟩; cases c
      · rintro ⟨_, _, f, k⟩
        exfalso
        have hf := f g (by simp)
        unfold snGFit at hf
        rw [if_neg hst] at hf
        rcases h0 with h0 | h0
        · exact hf.1 h0
        · have := k _ hf.1
          rw [cntG_cons, if_pos (by simp)] at this
          omega
    · have hz : (h g.2.2.1).2 = 0 := by have := (hok g.2.2.1).2; omega
      have hm0 : g.2.2.1 ≠ 0 := fun hc => h0 (.inl hc)
      have hh : snHold g h = ((decide (g.2.1 = 2) && decide ((h g.2.2.1).1 = 1)) || (decide (g.2.1 = 4) && decide ((h g.2.2.1).1 = 0)), h.put g.2.2.1 ((h g.2.2.1).1, 1)) := by unfold snHold; rw [if_neg hst, if_neg h0]
      have hfit : snGFit (fun m => (h m).1) g ↔ ((decide (g.2.1 = 2) && decide ((h g.2.2.1).1 = 1)) || (decide (g.2.1 = 4) && decide ((h g.2.2.1).1 = 0))) = true := by
       unfold snGFit
       rw [if_neg hst]
       simp only [Bool.or_eq_true, Bool.and_eq_true, decide_eq_true_eq]
       exact ⟨fun x => x.2, fun x => ⟨hm0, x⟩⟩
      have hok' : Hold.ok (h.put g.2.2.1 ((h g.2.2.1).1, 1)) := fun m => by
       unfold Hold.put
       split
       · exact ⟨(hok _).1, .inr rfl⟩
       · exact hok m
      have hfst : (fun m => ((h.put g.2.2.1 ((h g.2.2.1).1, 1)) m).1) = fun m => (h m).1 := by
       funext m
       unfold Hold.put
       split
       · rename_i hm; rw [hm]
       · rfl
      have hs : ∀ m, ((cntG (g :: l) m : Nat) : Int) + (h m).2 = (cntG l m : Nat) + ((h.put g.2.2.1 ((h g.2.2.1).1, 1)) m).2 := fun m => by
       rw [cntG_cons]
       unfold Hold.put
       by_cases hm : m = g.2.2.1
       · subst hm
         rw [if_pos (by simp), if_pos rfl, hz]
         simp
       · rw [if_neg (by simpa using Ne.symm hm), if_neg hm]
         simp
      rw [hh, snGs_iff l g.1 _ hok', hpw, hfst]
      simp only
      rw [← hfit]
      constructor
      · rintro ⟨a, b, c, d, e, f, k⟩
        exact ⟨fun x hx => by rcases List.mem_cons.1 hx with rfl | hx; exact a; exact d x hx, ⟨b, e⟩, fun x hx => by rcases List.mem_cons.1 hx with rfl | hx; exact c; exact f x hx, fun m hm => by rw [hs m]; exact k m hm⟩
      · rintro ⟨a, ⟨b, e⟩, f, k⟩
        exact ⟨a g (by simp), b, f g (by simp), fun x hx => a x (by simp [hx]), e, fun x hx => f x (by simp [hx]), fun m hm => by rw [← hs m]; exact k m hm⟩
theorem snGFit_congr {c c' : Int → Int} {g : Gs4} (h : g.2.2.1 ≠ 0 → c g.2.2.1 = c' g.2.2.1) (hf : snGFit c g) : snGFit c' g := by
 unfold snGFit at *
 split
 · rename_i hh; rwa [if_pos hh] at hf
 · rename_i hh
   rw [if_neg hh] at hf
   rw [← h hf.1]
   exact hf
theorem Sn.may_iff (s : Sn) : s.may = true ↔ snNum s.time = true ∧ s.ps.length ≤ 64 ∧ s.gs.length ≤ 1000 ∧ (∀ p ∈ s.ps, snPOk p = true) ∧ (∀ m, m ≠ 0 → cntP s.ps m ≤ 1) ∧ (∀ g ∈ s.gs, snGOk g = true) ∧ ((0 : Int) :: s.gs.map (·.1)).Pairwise (· < ·) ∧
    (∀ g ∈ s.gs, snGFit (fun m => (cntP s.ps m : Int)) g) ∧ ∀ m, m ≠ 0 → cntG s.gs m ≤ 1 := by
 have hok0 : Hold.ok (fun _ => (0, 0)) := fun m => ⟨.inl rfl, .inl rfl⟩
 obtain ⟨hp1, hp2⟩ := snPs_iff s.ps (fun _ => (0, 0)) hok0 (fun _ => rfl)
 unfold Sn.may
 simp only [Bool.and_eq_true, decide_eq_true_eq]
 constructor
 · rintro ⟨⟨⟨a, b⟩, c⟩, d⟩
   split at d
   · cases d
   · rename_i h' he
     obtain ⟨e1, e2, e3, e4, e5⟩ := hp1 h' he
     obtain ⟨g1, g2, g3, g4⟩ := (snGs_iff s.gs 0 h' e3).1 d
     refine ⟨a, b, c, e1, fun m hm => ?_, g1, g2, fun g hg => snGFit_congr (fun hm => ?_) (g3 g hg), fun m hm => ?_⟩
     · have := e2 m hm; simp only at this; omega
     · have := e5 _ hm; simp only at this; omega
     · have := g4 m hm; rw [e4 m] at this; omega
 · rintro ⟨a, b, c, e1, e2, g1, g2, g3, g4⟩
   obtain ⟨h', he⟩ := hp2 e1 (fun m hm => by have := e2 m hm; simp only; omega)
   obtain ⟨_, _, e3, e4, e5⟩ := hp1 h' he
   refine ⟨⟨⟨a, b⟩, c⟩, ?_⟩
   rw [he]
   refine (snGs_iff s.gs 0 h' e3).2 ⟨g1, g2, fun g hg => snGFit_congr (fun hm => ?_) (g3 g hg), fun m hm => ?_⟩
   · have := e5 _ hm; simp only at this; omega
   · have := g4 m hm; rw [e4 m]; omega
structure Lg where
 time : Int
 m : Int
 kind : Int
 g : Int
 p : Int
 seq : Int
namespace Md
def hasP : List (Int × Int) → Int → Int → Int
 | [], _, _ => 0
 | p :: l, m, i => if p.1 = m then i else hasP l m (i + 1)
def hasG : List Gs4 → Int → Int
 | [], _ => 0
 | g :: l, m => if g.2.2.1 = m then g.1 else hasG l m
def fnd : List Gs4 → Int → Option Nat
 | [], _ => none
 | y :: l, g => if y.1 = g then some 0 else (fnd l g).map (· + 1)
def gpos (l : List Gs4) (g : Int) : Nat := (l.takeWhile fun y => decide (y.1 < g)).length
def stat (l : List Gs4) (g : Int) : Int × Int := match fnd l g with
 | some k => ((l.getD k (0, 0, 0, 0)).2.1, (l.getD k (0, 0, 0, 0)).2.2.2)
 | none => (0, 0)
def free (l : List (Int × Int)) (p s : Int) : Bool := decide (1 ≤ p ∧ p ≤ l.length) && decide (l.getD (p - 1).toNat (0, 0) = (0, s))
def setG (l : List Gs4) (g st m : Int) : List Gs4 := match fnd l g with
 | some k => l.set k (g, st, m, (l.getD k (0, 0, 0, 0)).2.2.2 + 1)
 | none => l
def setP (l : List (Int × Int)) (p m : Int) : List (Int × Int) := l.set (p - 1).toNat (m, (l.getD (p - 1).toNat (0, 0)).2 + 1)
def ask (x : Sn) (l : Lg) : Bool :=
 if l.kind = 1 then free x.ps l.p l.seq && decide (hasP x.ps l.m 1 = 0) && decide (hasG x.gs l.m = 0)
 else if l.kind = 2 then decide (hasP x.ps l.m 1 ≠ 0) && decide (l.p = hasP x.ps l.m 1) && decide (hasG x.gs l.m = 0)
 else if l.kind = 3 then decide (hasP x.ps l.m 1 ≠ 0) && decide (hasG x.gs l.m ≠ 0) && decide (0 < l.g) && decide (fnd x.gs l.g = none)
 else if l.kind = 4 then decide (hasP x.ps l.m 1 ≠ 0) && decide (hasG x.gs l.m = 0) && decide (stat x.gs l.g = (1, l.seq))
 else if l.kind = 5 ∨ l.kind = 6 ∨ l.kind = 8 then decide (hasP x.ps l.m 1 ≠ 0) && decide (hasG x.gs l.m ≠ 0) && decide (l.g = hasG x.gs l.m)
 else if l.kind = 7 then decide (hasP x.ps l.m 1 ≠ 0) && decide (stat x.gs l.g = (3, l.seq))
 else if l.kind = 9 then decide (hasP x.ps l.m 1 ≠ 0) && decide (hasG x.gs l.m ≠ 0) && decide (l.g = hasG x.gs l.m) && decide (l.p = hasP x.ps l.m 1)
 else if l.kind = 10 then decide (hasP x.ps l.m 1 = 0) && decide (hasG x.gs l.m ≠ 0) && decide (l.g = hasG x.gs l.m) && (decide (l.p = 0 ∧ l.seq = 0) || free x.ps l.p l.seq)
 else false
def thn (x : Sn) (l : Lg) : Sn :=
 if l.kind = 1 then { x with ps := setP x.ps l.p l.m }
 else if l.kind = 2 then { x with ps := setP x.ps l.p 0 }
 else if l.kind = 3 then { x with gs := x.gs.insertIdx (gpos x.gs l.g) (l.g, 1, 0, 0) }
 else if l.kind = 4 then { x with gs := setG x.gs l.g 2 l.m }
 else if l.kind = 5 ∨ l.kind = 7 then { x with gs := setG x.gs l.g 1 0 }
 else if l.kind = 6 then { x with gs := setG x.gs l.g 3 0 }
 else if l.kind = 8 then { x with gs := x.gs.eraseIdx (gpos x.gs l.g) }
 else if l.kind = 9 then { x with gs := setG x.gs l.g 4 l.m, ps := setP x.ps l.p 0 }
 else if l.p = 0 then { x with gs := setG x.gs l.g 1 0 }
 else { x with gs := setG x.gs l.g 2 l.m, ps := setP x.ps l.p l.m }
def app (x : Sn) (l : Lg) : Option Sn :=
 if 1 ≤ l.m ∧ x.time ≤ l.time ∧ x.may = true ∧ ask x l = true ∧ ({ thn x l with time := l.time } : Sn).may = true then some { thn x l with time := l.time } else none
def rises (l : List Gs4) : Prop := (l.map (·.1)).Pairwise (· < ·)
theorem rises_may {x : Sn} (h : x.may = true) : rises x.gs ∧ ∀ y ∈ x.gs, 1 ≤ y.1 := by
 have h7 := ((Sn.may_iff x).1 h).2.2.2.2.2.2.1
 rw [List.pairwise_cons] at h7
 refine ⟨h7.2, fun y hy => ?_⟩
 have := h7.1 y.1 (List.mem_map_of_mem hy)
 omega
theorem fnd_none {l : List Gs4} {g : Int} : fnd l g = none ↔ ∀ y ∈ l, y.1 ≠ g := by
 induction l with
 | nil => simp [fnd]
 | cons y l ih =>
  unfold fnd
  by_cases h : y.1 = g
  · rw [if_pos h]
    constructor
    · intro h2; cases h2
    · intro h2; exact absurd h (h2 y (by simp))
  · rw [if_neg h, Option.map_eq_none_iff, ih]
    constructor
    · intro h2 z hz
      rcases List.mem_cons.1 hz with rfl | hz
      · exact h
      · exact h2 z hz
    · intro h2 z hz; exact h2 z (List.mem_cons_of_mem _ hz)
theorem fnd_some {l : List Gs4} {g : Int} {k : Nat} (h : fnd l g = some k) : ∃ y, l[k]? = some y ∧ y.1 = g ∧ ∀ j < k, ∀ z, l[j]? = some z → z.1 ≠ g := by
 induction l generalizing k with
 | nil => simp [fnd] at h
 | cons y l ih =>
  unfold fnd at h
  by_cases hy : y.1 = g
  · rw [if_pos hy] at h
    obtain rfl := Option.some.inj h
    exact ⟨y, rfl, hy, fun j hj => by omega⟩
  · rw [if_neg hy, Option.map_eq_some_iff] at h
    obtain ⟨j, hj, rfl⟩ := h
    obtain ⟨z, h1, h2, h3⟩ := ih hj
    refine ⟨z, by simpa using h1, h2, fun i hi u hu => ?_⟩
    cases i with
    | zero => obtain rfl : y = u := by simpa using hu
              exact hy
    | succ i => exact h3 i (by omega) u (by simpa using hu)
theorem fnd_of {l : List Gs4} (hr : rises l) {g : Int} {k : Nat} {y : Gs4} (hk : l[k]? = some y) (hy : y.1 = g) : fnd l g = some k := by
 cases hf : fnd l g with
 | none => exact absurd hy (fnd_none.1 hf y (List.mem_of_getElem? hk))
 | some j =>
  obtain ⟨z, h1, h2, h3⟩ := fnd_some hf
  have hlt : ∀ {a b : Nat} {u v : Gs4}, l[a]? = some u → l[b]? = some v → a < b → u.1 < v.1 := fun {a b u v} ha hb hab => by
   have ha2 := (List.getElem?_eq_some_iff.1 ha)
   have hb2 := (List.getElem?_eq_some_iff.1 hb)
   have := List.pairwise_iff_getElem.1 hr a b (by simpa using ha2.1) (by simpa using hb2.1) hab
   simp only [List.getElem_map, ha2.2, hb2.2] at this
   exact this
  rcases Nat.lt_trichotomy j k with h | h | h
  · have := hlt h1 hk h; omega
  · rw [h]
  · have := hlt hk h1 h; omega
theorem rises_lt {l : List Gs4} (hr : rises l) {a b : Nat} {u v : Gs4} (ha : l[a]? = some u) (hb : l[b]? = some v) (hab : a < b) : u.1 < v.1 := by
 have ha2 := (List.getElem?_eq_some_iff.1 ha)
 have hb2 := (List.getElem?_eq_some_iff.1 hb)
 have := List.pairwise_iff_getElem.1 hr a b (by simpa using ha2.1) (by simpa using hb2.1) hab
 simp only [List.getElem_map, ha2.2, hb2.2] at this
 exact this
theorem gpos_of {l : List Gs4} {g : Int} {k : Nat} (hk : k ≤ l.length) (h1 : ∀ j < k, ∀ z, l[j]? = some z → z.1 < g) (h2 : ∀ z, l[k]? = some z → g ≤ z.1) : gpos l g = k := by
 unfold gpos
 induction l generalizing k with
 | nil => simp at hk; simp [hk]
 | cons y l ih =>
  cases k with
  | zero =>
   have := h2 y rfl
   rw [List.takeWhile_cons_of_neg (by simp; omega)]
   rfl
  | succ k =>
   have := h1 0 (by omega) y rfl
   rw [List.takeWhile_cons_of_pos (by simp; omega), List.length_cons, ih (k := k) (by simpa using hk) (fun j hj z hz => h1 (j + 1) (by omega) z (by simpa using hz)) (fun z hz => h2 z (by simpa using hz))]
theorem gpos_le (l : List Gs4) (g : Int) : gpos l g ≤ l.length := by
 unfold gpos
 exact (List.takeWhile_prefix _).length_le
theorem gpos_fnd {l : List Gs4} (hr : rises l) {g : Int} {k : Nat} (h : fnd l g = some k) : gpos l g = k := by
 obtain ⟨y, h1, h2, h3⟩ := fnd_some h
 refine gpos_of (Nat.le_of_lt (List.getElem?_eq_some_iff.1 h1).1) (fun j hj z hz => ?_) fun z hz => ?_
 · have := rises_lt hr hz h1 hj; omega
 · rw [h1] at hz; obtain rfl := Option.some.inj hz; omega
theorem setG_keys (l : List Gs4) (g st m : Int) : (setG l g st m).map (·.1) = l.map (·.1) := by
 unfold setG
 cases h : fnd l g with
 | none => rfl
 | some k =>
  obtain ⟨y, h1, h2, _⟩ := fnd_some h
  rw [List.map_set]
  apply List.ext_getElem?
  intro j
  by_cases hj : j = k
  · subst hj
    have hl : j < (l.map (·.1)).length := by rw [List.length_map]; exact (List.getElem?_eq_some_iff.1 h1).1
    rw [List.getElem?_set_self hl, List.getElem?_map, h1]
    exact congrArg some h2.symm
  · rw [List.getElem?_set_ne (Ne.symm hj)]
theorem setG_len (l : List Gs4) (g st m : Int) : (setG l g st m).length = l.length := by
 have := congrArg List.length (setG_keys l g st m)
 simpa using this
end Md
structure Ri where
 buf : List Int
 head : Int
 n : Int
open Go.RowKit Go.Shelf
attribute [local go_sem] Oper.semAt_some
open Go.RowKit Go.Shelf
attribute [local go_sem] Oper.semAt_some
open Go.RowKit Go.Shelf
attribute [local go_sem] Oper.semAt_some
open Go.RowKit Go.Shelf
attribute [local go_sem] Oper.semAt_some
section
variable {P : Program} {ops : Array Oper} {Q : Exit → Act → World → Prop} {md : Region.Mode} {S : World → Prop}
def GivesV (P : Program) (S : World → Prop) (v : Value) : Result Next → Prop
 | .ok (.value u) w' => u = v ∧ S w'
 | .ok .skip w' => v = undef ∧ S w'
 | .ok (.enter f args) w' => Calls P f args w' fun e w'' => e = .returned v ∧ S w''
 | _ => False
def Tame (P : Program) (ops : Array Oper) (S : World → Prop) (o : Oper) (v : Value) (a : Act) : Prop :=
 (Region.wanted o (yielded ops a.tmps) = true ∧ ∀ w, S w → GivesV P S v ((execOp a.eval o).run P w)) ∨
 (Region.wanted o (yielded ops a.tmps) = false ∧ v = undef)
theorem Tame.op {i : Nat} {o : Oper} {v : Value} {a : Act} (hi : ops[i]? = some o) (h : Tame P ops S o v a)
    {K : Act → World → Prop} {w : World} (hS : S w) (hK : ∀ w', S w' → K (a.put o.dst v) w') : wpOp P ops Q i K a w := by
 unfold wpOp
 simp only [hi]
 rcases h with ⟨hw, hv⟩ | ⟨hw, rfl⟩
 · simp only [hw, if_true]
   left
   have h2 := hv w hS
   unfold Oper.wp
   generalize (execOp a.eval o).run P w = r at *
   cases r with
   | halt x w' => exact h2.elim
   | ok n w' =>
    cases n with
    | value u => obtain ⟨rfl, h3⟩ := h2; exact hK _ h3
    | skip => obtain ⟨rfl, h3⟩ := h2; exact hK _ h3
    | enter f args =>
     refine Calls.mono h2 fun e w'' he => ?_
     obtain ⟨rfl, h3⟩ := he
     exact hK _ h3
    | _ => exact h2.elim
 · simp only [hw, Bool.false_eq_true, if_false]
   exact hK _ hS
theorem gives_mk {u v : Value} {w : World} (h : u = v) (hS : S w) : GivesV P S v (.ok (.value u) w) := ⟨h, hS⟩
end
def Sl.lt (a b : Int × Int) : Prop := a.1 < b.1 ∨ a.1 = b.1 ∧ a.2 < b.2
instance (a b : Int × Int) : Decidable (Sl.lt a b) := by unfold Sl.lt; exact inferInstance
def Sl.fit (p : Int × Int) : Prop := 0 ≤ p.1 ∧ p.1 < 4611686018427387904 ∧ 1 ≤ p.2
instance (p : Int × Int) : Decidable (Sl.fit p) := by unfold Sl.fit; exact inferInstance
def Sl.May (l : List (Int × Int)) : Prop := (∀ p ∈ l, Sl.fit p) ∧ l.Pairwise Sl.lt ∧ (l.map Prod.snd).Nodup
instance (l : List (Int × Int)) : Decidable (Sl.May l) := by unfold Sl.May; exact inferInstance
namespace Pg
end Pg
structure Gr where
 func : Int
 pc : Int
 st : Int
 m : Int
 seq : Int
structure Pr where
 m : Int
 next : Int
 ring : Ri
 seq : Int
structure St where
 prog : List (List (Int × Int))
 gs : List Gr
 ps : List Pr
 ms : List (Int × Int)
 glob : List Int
 c0 : Int
 c1 : Int
 c2 : Int
 c3 : Int
 w0 : List Int
 w1 : List Int
 w2 : List Int
 w3 : List Int
 timers : List (Int × Int)
 clock : Int
 procs : Int
namespace St
end St
end Go.Proofs.YtohncgikdlbogaaDoor
