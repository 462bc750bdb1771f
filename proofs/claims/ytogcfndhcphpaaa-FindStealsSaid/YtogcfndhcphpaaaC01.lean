/-
  Several texts in one: La, Lp, Ga, Gb, Gc, Gd, Na, Nb, Nc, Nd, Ne.
-/
import Derived.Test.YtogcfndhcphpaaaRows
import Derived.WalkKit
import Derived.WalkSpells
import Derived.WalkLawsBesides
import Derived.Lib.Hide
import Derived.Laws.BytesArg
import Derived.ProofKit
import Derived.OpenShut
import Derived.Deep.AppendLies
import Derived.Deep.QuietTactic
import Derived.BigQuiet
import Derived.Lib.AppendZerosOnto
import Derived.Deep.Upon
import Derived.RangeFuncBox
import Derived.RangeFuncLeaves
import Derived.RangeFuncNested
import Derived.RangeFuncBound
import Derived.RangeFuncCalls
import Derived.Shelf.Abstract
import Derived.Shelf.RegionOpen
import Derived.OwnWalkIn
import Derived.TacticsInMore
import Derived.LoopNIn
import Derived.LoopIn
import Derived.ChangeKeysEq
import Derived.Deep.DeepCutAuto
set_option linter.unusedVariables false
set_option linter.unusedSimpArgs false
namespace Go.Proofs.Ytogcfndhcphpaaa
open Go.RowKit
def Ext (w w' : World) : Prop := Below w.heap.size w w'
theorem Ext.refl (w : World) : Ext w w := Below.refl _ _
theorem Ext.trans {a b c : World} (h : Ext a b) (k : Ext b c) : Ext a c := Below.trans h (Below.mono k h.size)
theorem Ext.drew {a b : World} (h : Ext a b) : Ext a b.drew := Below.drew h
theorem Ext.drewN {a b : World} (h : Ext a b) (n : Nat) : Ext a (b.drewN n) := ⟨h.os, h.tape, h.output, h.size, h.block⟩
theorem Ext.alloc {a b : World} (h : Ext a b) (o : Obj) : Ext a (b.alloc o) := Below.alloc h h.size o
theorem Ext.setCell {a b : World} (h : Ext a b) {p : Addr} (hp : a.heap.size ≤ p.block) (u : Value) : Ext a (b.setCell p u) := Below.setCell h hp u
open Go.ChangeShapes Go.WideShapes Go.ChangeAt Go.RowKit
theorem Ext.box {w v : World} {cs : Array Value} {t : TypeId} (h : Ext (w.alloc (.cells cs t)) v) (i : Nat) (x : Value) (hx : cs[i]? = some x) : v.cell? ⟨w.heap.size, i, none⟩ = some x := by
  rw [Below.cell h (by simp), World.cell?_alloc_new]
  simp [hx]
def Upd (g : Nat) (w w' : World) : Prop := w.grownBy w' (some g)
theorem Upd.refl (g : Nat) (w : World) : Upd g w w := World.grownBy.refl w _
theorem Upd.trans {g : Nat} {a b c : World} (h : Upd g a b) (k : Upd g b c) : Upd g a c :=
  ⟨k.os.trans h.os, k.tape.trans h.tape, k.output.trans h.output, Nat.le_trans h.size k.size, fun i hi hne => (k.block i (Nat.lt_of_lt_of_le hi h.size) hne).trans (h.block i hi hne)⟩
theorem Upd.ext {g : Nat} {a b : World} (h : Ext a b) : Upd g a b := ⟨h.os, h.tape, h.output, h.size, fun i hi _ => h.block i hi⟩
theorem Upd.set {g : Nat} {a b : World} (h : Upd g a b) (i : Nat) (u : Value) : Upd g a (b.setCell ⟨g, i, none⟩ u) :=
  h.trans ⟨rfl, rfl, rfl, by simp [World.setCell], fun k _ hne => Below.heap_setCell _ _ _ _ (by rintro rfl; exact hne rfl)⟩
theorem Ext.upd {g : Nat} {a b c : World} (h : Ext a b) (k : Upd g b c) (hg : a.heap.size ≤ g) : Ext a c :=
  Below.grown h k h.size (by intro k hk; injection hk with hk; omega)
theorem Ext.grownBy {w w' : World} (hx : Ext w w') : w.grownBy w' none := ⟨hx.os, hx.tape, hx.output, hx.size, fun k hk _ => hx.block k hk⟩
theorem Upd.blk {g b : Nat} {w w' : World} {o : Obj} (h : Upd g w w') (hb : w.heap[b]? = some o) (hne : b ≠ g) : w'.heap[b]? = some o :=
  (h.block b (Array.getElem?_eq_some_iff.1 hb).1 (fun e => hne (by injection e))).trans hb
theorem Ext.blk {b : Nat} {w w' : World} {o : Obj} (h : Ext w w') (hb : w.heap[b]? = some o) : w'.heap[b]? = some o :=
  (h.block b (Array.getElem?_eq_some_iff.1 hb).1).trans hb
theorem Upd.sz {g : Nat} {w w' : World} (h : Upd g w w') : w.heap.size ≤ w'.heap.size := h.size
theorem Upd.newset {g : Nat} {a b : World} (h : Upd g a b) {p : Addr} (hp : a.heap.size ≤ p.block) (u : Value) : Upd g a (b.setCell p u) :=
  ⟨h.os, h.tape, h.output, by simpa [World.setCell] using h.size, fun i hi hne => (Below.heap_setCell b p u i (by omega)).trans (h.block i hi hne)⟩
theorem blk_cell {w : World} {b : Nat} {cs : Array Value} {t : TypeId} {fr : Nat × Nat} (h : w.heap[b]? = some (.cells cs t fr)) (i : Nat) (x : Value) (hx : cs[i]? = some x) : w.cell? ⟨b, i, none⟩ = some x := by
  rw [cell_of_row w b i cs t fr h, hx]
theorem blk_lt {w : World} {b : Nat} {o : Obj} (h : w.heap[b]? = some o) : b < w.heap.size := (Array.getElem?_eq_some_iff.1 h).1
theorem blk_set {w : World} {b : Nat} {cs : Array Value} {t : TypeId} (h : w.heap[b]? = some (.cells cs t (0, 0))) (i : Nat) (u : Value) : (w.setCell ⟨b, i, none⟩ u).heap[b]? = some (.cells (cs.setIfInBounds i u) t (0, 0)) := heap_setCell_same w b i _ _ _ h
theorem blk_set_other {w : World} {b : Nat} {o : Obj} (h : w.heap[b]? = some o) (p : Addr) (hp : p.block ≠ b) (u : Value) : (w.setCell p u).heap[b]? = some o := (Below.heap_setCell w p u b (Ne.symm hp)).trans h
theorem blk_alloc {w : World} {b : Nat} {o : Obj} (h : w.heap[b]? = some o) (q : Obj) : (w.alloc q).heap[b]? = some o := (Below.heap_alloc w q b (blk_lt h)).trans h
theorem blk_new (w : World) (q : Obj) : (w.alloc q).heap[w.heap.size]? = some q := heap_alloc_new w q
def IntsAt (w : World) (v : Value) (xs : List Int) : Prop :=
  ∃ A c, v = .slice A xs.length c ∧ (0 < xs.length → ∃ b o, A = some ⟨b, o, none⟩ ∧ b < w.heap.size ∧ ∀ j x, xs[j]? = some x → w.cell? ⟨b, o + j, none⟩ = some (.int .i64 x))
theorem IntsAt.ext {w w' : World} {v : Value} {xs : List Int} (h : IntsAt w v xs) (hx : Ext w w') : IntsAt w' v xs := by
  obtain ⟨A, c, rfl, hA⟩ := h
  refine ⟨A, c, rfl, fun h0 => ?_⟩
  obtain ⟨b, o, hb, hlt, hc⟩ := hA h0
  exact ⟨b, o, hb, Nat.lt_of_lt_of_le hlt hx.size, fun j x hj => by rw [Below.cell hx hlt]; exact hc j x hj⟩
theorem Try.infoInt : (Try.prog.info? 3).map (fun i => (i.zero, i.size, i.bytes)) = some (some (.int .i64 0), 1, 8) := by kernel_rfl
def intsV (xs : List Int) : List Value := xs.map (Value.int .i64)
def OwnInts (w : World) (B : Nat) (v : Value) (xs : List Int) : Prop := w.ownsRow B 3 1 v xs.length (intsV xs)
theorem OwnInts.nil (w : World) (B : Nat) : OwnInts w B (.slice none 0 0) [] := ⟨by simp [intsV], .inl ⟨rfl, rfl⟩⟩
theorem OwnInts.kept {w w' : World} {B : Nat} {v : Value} {xs : List Int} {g : Nat} (h : OwnInts w B v xs) (hg : w.grownBy w' (some g)) (hlt : g < B) : OwnInts w' B v xs := by
  refine World.ownsRow.kept h hg ?_
  cases hv : v.ownBlock with
  | none => exact .inl rfl
  | some k => right; have := (World.ownsRow.lt h k hv).1; intro he; injection he; omega
theorem OwnInts.alloc {w : World} {B : Nat} {v : Value} {xs : List Int} (h : OwnInts w B v xs) (o : Obj) : OwnInts (w.alloc o) B v xs := World.ownsRow.alloc h o
theorem OwnInts.ext {w w' : World} {B : Nat} {v : Value} {xs : List Int} (h : OwnInts w B v xs) (hx : Ext w w') : OwnInts w' B v xs :=
  World.ownsRow.kept h ⟨hx.os, hx.tape, hx.output, hx.size, fun k hk _ => hx.block k hk⟩ (row := none) (by cases hv : v.ownBlock <;> simp)
theorem OwnInts.ints {w : World} {B : Nat} {v : Value} {xs : List Int} (h : OwnInts w B v xs) : ∃ A c, v = .slice A xs.length c ∧ IntsAt w (.slice A xs.length c) xs := by
  rcases h.2 with ⟨rfl, h0⟩ | ⟨g, cap, cur, rfl, hb, hg, hnc, hcm, hcs, htake⟩
  · obtain rfl := List.eq_nil_of_length_eq_zero h0
    exact ⟨none, 0, rfl, none, 0, rfl, fun h => by simp at h⟩
  · refine ⟨_, cap, rfl, _, _, rfl, fun _ => ⟨g, 0, rfl, (Array.getElem?_eq_some_iff.1 hg).1, fun j x hj => ?_⟩⟩
    have hjl : j < xs.length := (List.getElem?_eq_some_iff.1 hj).1
    have := World.ownsRow.cellAt h j (by simpa using hjl)
    rw [Nat.zero_add, this]
    simp [intsV, hj]
theorem OwnInts.far {w : World} {B : Nat} {A : Option Addr} {n c : Nat} {xs : List Int} (h : OwnInts w B (.slice A n c) xs) {b o : Nat} (hA : A = some ⟨b, o, none⟩) : B ≤ b := by
  subst hA
  exact (World.ownsRow.lt h b rfl).1
theorem OwnInts.form {w : World} {B : Nat} {v : Value} {xs : List Int} (h : OwnInts w B v xs) : ∃ A c, v = .slice A xs.length c := by
  obtain ⟨A, c, hv, _⟩ := h.ints; exact ⟨A, c, hv⟩
set_option maxRecDepth 100000 in
set_option maxHeartbeats 1000000 in
theorem rints_any (v u : Value) (xs ys : List Int) (w : World) (h : IntsAt w v xs) (k : IntsAt w u ys) (hn : xs.length ≤ 9223372036854775807) :
    Calls Try.prog 30 #[v, u] w fun e w' => e = .returned (.bool (decide (xs = ys))) ∧ Ext w w' := by
  obtain ⟨A, c, rfl, hA⟩ := h
  obtain ⟨B, d, rfl, hB⟩ := k
  have HA := Lib.hid hA; clear hA
  have HB := Lib.hid hB; clear hB
  by_cases hl : xs.length = ys.length
  · have hlb : ((xs.length : Int) != (ys.length : Int)) = false := by simp; omega
    have HL := Lib.hid hl; clear hl
    go_enter Try.func30, Try.ntmps30
    go_wp2
    go_loopw [5] (fun i wr => ∃ k : Nat, k ≤ xs.length ∧ i = .int .i64 k ∧ xs.take k = ys.take k ∧ Ext w wr) (fun i _ => xs.length - (intOf i).toNat)
    case atStart => exact ⟨0, by omega, rfl, by simp, Ext.refl _⟩
    case round =>
      obtain ⟨k, hk, rfl, heq, hx⟩ := hrel
      have HE := Lib.hid heq; clear heq
      have HX := Lib.hid hx; clear hx
      by_cases hlt : k < xs.length
      · have hlt2 : k < ys.length := by have := HL.out; omega
        obtain ⟨b, o, rfl, hb, hc⟩ := HA.out (by omega)
        obtain ⟨b2, o2, rfl, hb2, hc2⟩ := HB.out (by omega)
        have c1 : wr.cell? ⟨b, o + k, none⟩ = some (.int .i64 xs[k]) := by rw [Below.cell HX.out hb]; exact hc k _ (List.getElem?_eq_getElem hlt)
        have c2 : wr.cell? ⟨b2, o2 + k, none⟩ = some (.int .i64 ys[k]) := by rw [Below.cell HX.out hb2]; exact hc2 k _ (List.getElem?_eq_getElem hlt2)
        have HT : Hid (xs.take (k + 1) = xs.take k ++ [xs[k]] ∧ ys.take (k + 1) = ys.take k ++ [ys[k]]) := Lib.hid ⟨by rw [List.take_succ_eq_append_getElem hlt], by rw [List.take_succ_eq_append_getElem hlt2]⟩
        have HNE : Hid (xs[k] ≠ ys[k] → xs ≠ ys) := Lib.hid (fun hn he => by subst he; exact hn rfl)
        have i0 : (0 : Int) ≤ (k : Int) := by omega
        have i1 : (k : Int) < (xs.length : Int) := by omega
        have i2 : (k : Int) < (ys.length : Int) := by omega
        clear hc hc2
        generalize xs[k] = x at *
        generalize ys[k] = y at *
        by_cases hxy : x = y
        · have hb1 : (x != y) = false := by simpa using hxy
          have HXY := Lib.hid hxy; clear hxy
          go_wp2
          go_quiet (fail)
          go_wp2
          go_roundw
          case rel => exact ⟨k + 1, by omega, by go_num, by rw [HT.out.1, HT.out.2, HE.out, HXY.out], HX.out.drewN _⟩
          case measure => simp [intOf]; omega
        · have hb1 : (x != y) = true := by simpa using hxy
          have HXY : Hid (decide (xs = ys) = false) := Lib.hid (decide_eq_false (HNE.out hxy)); clear hxy
          go_wp2
          go_quiet (fail)
          go_wp2
          go_ret
          exact ⟨by rw [HXY.out]; rfl, HX.out.drewN _⟩
      · obtain rfl : k = xs.length := by omega
        have HXY : Hid (decide (xs = ys) = true) := Lib.hid (decide_eq_true (by have := HE.out; rwa [List.take_length, HL.out, List.take_length] at this))
        go_wp2
        go_ret
        exact ⟨by rw [HXY.out]; rfl, HX.out⟩
  · have hlb : ((xs.length : Int) != (ys.length : Int)) = true := by simp; omega
    have HL : Hid (decide (xs = ys) = false) := Lib.hid (decide_eq_false fun h => hl (by rw [h])); clear hl
    go_enter Try.func30, Try.ntmps30
    go_wp2
    go_ret
    exact ⟨by rw [HL.out]; rfl, Ext.refl _⟩
theorem rints_eq (v u : Value) (xs ys : List Int) (b : Bool) (hb : decide (xs = ys) = b) (w : World) (h : IntsAt w v xs) (k : IntsAt w u ys) (hn : xs.length ≤ 9223372036854775807) :
    Calls Try.prog 30 #[v, u] w fun e w' => e = .returned (.bool b) ∧ Ext w w' := by subst hb; exact rints_any v u xs ys w h k hn
theorem own_append2 {P : Program} {w : World} {base : Nat} {e t : TypeId} (ty : TypeId) {size bytes : Nat} {i : TypeInfo} {z : Value} (ht : P.underlying t = some (.slice e)) (hi : P.info? e = some i) (hz : i.zero = some z)
    (hsize : i.size = size) (hby : i.bytes = bytes) (hzs : z.cells.size = size) (hsz : 0 < size) {v : Value} {n : Nat} {xs : List Value} (hown : w.ownsRow base e size v n xs)
    {A : Option Addr} {m : Nat} (c : Nat) {news : List Value} (hl : news.length = m * size) (hA : 0 < m → ∃ ad, A = some ad ∧ ∀ j u, news[j]? = some u → w.cell? (ad.add j) = some u) (h1 : ∀ u ∈ news, u.oneCell' = true)
    (h63 : n + m ≤ maxLen) (hbytes : (n + m) * bytes ≤ 140737488355328) (hbase : base ≤ w.heap.size) :
    ∃ v' w', (Builtin.append_ #[t, t] ty #[v, .slice A m c]).run P w = .ok v' w' ∧ w'.ownsRow base e size v' (n + m) (xs ++ news) ∧ w.grownBy w' v.ownBlock ∧ (v'.ownBlock = v.ownBlock ∨ v'.ownBlock = some w.heap.size) := by
  by_cases hm : m = 0
  · subst hm
    obtain rfl : news = [] := List.eq_nil_of_length_eq_zero (by rw [hl]; omega)
    have hs : Go.Src P i.size t (.slice A 0 c) 0 [] w := by
      cases A with
      | none => exact Go.Src.ofNil w ht c
      | some a => exact Go.Src.ofSlice w ht a 0 c [] (by simp) (by simp) (by simp)
    refine ⟨v, w, ?_, by simpa using hown, World.grownBy.refl w _, .inl rfl⟩
    rcases hown.2 with ⟨rfl, _⟩ | ⟨g, cap, cur, rfl, _, _, hle, _⟩
    · exact Go.run_append_nothing w t t ty e i ht hi none 0 0 (Nat.le_refl _) _ hs
    · exact Go.run_append_nothing w t t ty e i ht hi (some ⟨g, 0, none⟩) n cap hle _ hs
  · obtain ⟨ad, rfl, hnews⟩ := hA (by omega)
    obtain ⟨v', w', hr, h2, h3, _, h5⟩ := run_append_own_at (P := P) w base t ty e i z size bytes ht hi hz hsize hby hzs hsz v n xs hown ad m c news hl hnews h1 h63 hbytes hbase
    exact ⟨v', w', hr, h2, h3, h5⟩
theorem wpList_append_run {P : Program} {ops : Array Oper} {rest : List Oper} {o : Oper} {a : Act} {w : World} {Q : Exit → Act → World → Prop} (hw : Region.wanted o (yielded ops a.tmps) = true) (s x : Operand) (t : TypeId)
    (ho : o.op = .call { callee := .builtin .append, args := #[s, x], argTypes := #[t, t] }) (v xv : Value) (hs : a.eval s = v) (hx : a.eval x = xv) {v' : Value} {w' : World}
    (hr : (Builtin.append_ #[t, t] o.type #[v, xv]).run P w = .ok v' w') (h : wpList P ops Q rest (a.put o.dst v') w') : wpList P ops Q (o :: rest) a w := by
  unfold wpList
  rw [if_pos hw]
  left
  unfold Oper.wp execOp
  simp only [ho, resolve, invoke, builtin, Sem.run_bind, Sem.run_pure, Result.andThen_ok, List.map_toArray, List.map_cons, List.map_nil, hs, hx, hr]
  exact h
def RowsAt {α : Type} (m : Nat) (f : α → List Value) (w : World) (v : Value) (xs : List α) : Prop :=
  ∃ A c, v = .slice A xs.length c ∧ xs.length ≤ c ∧ (0 < xs.length → ∃ b o, A = some ⟨b, o, none⟩ ∧ b < w.heap.size ∧ ∀ j x, xs[j]? = some x → ∀ i u, (f x)[i]? = some u → w.cell? ⟨b, o + j * m + i, none⟩ = some u)
section
variable {α : Type} {m : Nat} {f : α → List Value} {w w' : World} {v : Value} {xs ys : List α} {e : TypeId} {B : Nat}
theorem RowsAt.ext (h : RowsAt m f w v xs) (hx : Ext w w') : RowsAt m f w' v xs := by
  obtain ⟨A, c, rfl, hc, hA⟩ := h
  refine ⟨A, c, rfl, hc, fun h0 => ?_⟩
  obtain ⟨b, o, hb, hlt, hc⟩ := hA h0
  exact ⟨b, o, hb, Nat.lt_of_lt_of_le hlt hx.size, fun j x hj i u hu => by rw [Below.cell hx hlt]; exact hc j x hj i u hu⟩
theorem RowsAt.nil (w : World) : RowsAt m f w (.slice none 0 0) [] := ⟨none, 0, rfl, Nat.le_refl _, fun h => by simp at h⟩
def OwnRows {α : Type} (e : TypeId) (m : Nat) (f : α → List Value) (w : World) (B : Nat) (v : Value) (xs : List α) : Prop := w.ownsRow B e m v xs.length (xs.flatMap f)
theorem OwnRows.nil (w : World) (B : Nat) : OwnRows e m f w B (.slice none 0 0) [] := ⟨by simp, .inl ⟨rfl, rfl⟩⟩
theorem OwnRows.ext (h : OwnRows e m f w B v xs) (hx : Ext w w') : OwnRows e m f w' B v xs := World.ownsRow.kept h hx.grownBy (by cases hv : v.ownBlock <;> simp)
theorem OwnRows.kept {row : Option Nat} (h : OwnRows e m f w B v xs) (hg : w.grownBy w' row) (hd : v.ownBlock = none ∨ v.ownBlock ≠ row) : OwnRows e m f w' B v xs := World.ownsRow.kept h hg hd
theorem OwnRows.lt (h : OwnRows e m f w B v xs) : ∀ k, v.ownBlock = some k → B ≤ k ∧ k < w.heap.size := World.ownsRow.lt h
theorem flatMap_get (hf : ∀ x, (f x).length = m) : ∀ (xs : List α) (j : Nat) (x : α), xs[j]? = some x → ∀ i u, (f x)[i]? = some u → (xs.flatMap f)[j * m + i]? = some u
  | [], j, x, h, _, _, _ => by simp at h
  | y :: xs, 0, x, h, i, u, hu => by
    simp at h; subst h
    have hi : i < (f y).length := (List.getElem?_eq_some_iff.1 hu).1
    rw [List.flatMap_cons, List.getElem?_append_left (by omega), Nat.zero_mul, Nat.zero_add]
    exact hu
  | y :: xs, j + 1, x, h, i, u, hu => by
    simp at h
    rw [List.flatMap_cons, List.getElem?_append_right (by rw [hf, Nat.add_mul]; omega), hf, show (j + 1) * m + i - m = j * m + i by rw [Nat.add_mul]; omega]
    exact flatMap_get hf xs j x h i u hu
theorem flatMap_len (hf : ∀ x, (f x).length = m) : ∀ xs : List α, (xs.flatMap f).length = xs.length * m
  | [] => by simp
  | y :: xs => by rw [List.flatMap_cons, List.length_append, hf, flatMap_len hf xs, List.length_cons, Nat.add_mul]; omega
theorem OwnRows.rows (hf : ∀ x, (f x).length = m) (h : OwnRows e m f w B v xs) : RowsAt m f w v xs := by
  have hh := h
  rcases h.2 with ⟨rfl, h0⟩ | ⟨g, cap, cur, rfl, hb, hg, hnc, hcm, hcs, htake⟩
  · obtain rfl := List.eq_nil_of_length_eq_zero h0
    exact RowsAt.nil w
  · refine ⟨_, cap, rfl, hnc, fun _ => ⟨g, 0, rfl, (Array.getElem?_eq_some_iff.1 hg).1, fun j x hj i u hu => ?_⟩⟩
    have hfl := flatMap_get hf xs j x hj i u hu
    have hlt : j * m + i < xs.length * m := by
      have := (List.getElem?_eq_some_iff.1 hfl).1
      rwa [flatMap_len hf] at this
    rw [Nat.zero_add, World.ownsRow.cellAt hh _ hlt]
    exact hfl
theorem RowsAt.len {A : Option Addr} {n c : Nat} (h : RowsAt m f w (.slice A n c) xs) : n = xs.length ∧ xs.length ≤ c := by
  obtain ⟨A0, c0, hv, hc, _⟩ := h
  simp only [Value.slice.injEq] at hv
  omega
theorem RowsAt.form (h : RowsAt m f w v xs) : ∃ A c, v = .slice A xs.length c ∧ xs.length ≤ c := by
  obtain ⟨A, c, hv, hc, _⟩ := h; exact ⟨A, c, hv, hc⟩
theorem OwnRows.append2 {P : Program} {t : TypeId} (ty : TypeId) {bytes : Nat} {i : TypeInfo} {z : Value} (ht : P.underlying t = some (.slice e)) (hi : P.info? e = some i) (hz : i.zero = some z) (hsize : i.size = m) (hby : i.bytes = bytes) (hzs : z.cells.size = m) (hsz : 0 < m)
    (hf : ∀ x, (f x).length = m) (h1 : ∀ x, ∀ u ∈ f x, u.oneCell' = true) (h : OwnRows e m f w B v xs) {A : Option Addr} {c : Nat} (hv : RowsAt m f w (.slice A ys.length c) ys) (h63 : xs.length + ys.length ≤ maxLen) (hbytes : (xs.length + ys.length) * bytes ≤ 140737488355328) (hbase : B ≤ w.heap.size) :
    ∃ v' w', (Builtin.append_ #[t, t] ty #[v, .slice A ys.length c]).run P w = .ok v' w' ∧ OwnRows e m f w' B v' (xs ++ ys) ∧ w.grownBy w' v.ownBlock ∧ (v'.ownBlock = v.ownBlock ∨ v'.ownBlock = some w.heap.size) := by
  obtain ⟨A0, c0, hvv, hc, hA⟩ := hv
  simp only [Value.slice.injEq, true_and] at hvv
  obtain ⟨rfl, rfl⟩ := hvv
  obtain ⟨v', w', hr, ho, hg, hb⟩ := own_append2 (P := P) ty ht hi hz hsize hby hzs hsz h (A := A) (m := ys.length) c (news := ys.flatMap f) (flatMap_len hf ys) (fun h0 => by
    obtain ⟨b, o, rfl, hb, hcell⟩ := hA h0
    refine ⟨_, rfl, fun j u hj => ?_⟩
    rw [Addr.add_lit]
    have hjl : j < ys.length * m := by have := (List.getElem?_eq_some_iff.1 hj).1; rwa [flatMap_len hf] at this
    have hq : j / m < ys.length := Nat.div_lt_of_lt_mul (by rw [Nat.mul_comm]; exact hjl)
    have hr : j % m < (f ys[j / m]).length := by rw [hf]; exact Nat.mod_lt _ hsz
    have h2 := flatMap_get hf ys (j / m) _ (List.getElem?_eq_getElem hq) (j % m) _ (List.getElem?_eq_getElem hr)
    have hjj : j / m * m + j % m = j := by rw [Nat.mul_comm]; exact Nat.div_add_mod j m
    rw [hjj, hj] at h2
    have h3 := hcell (j / m) _ (List.getElem?_eq_getElem hq) (j % m) _ (List.getElem?_eq_getElem hr)
    rw [← h2] at h3
    rw [Nat.add_assoc, hjj] at h3
    exact h3) (fun u hu => by
    obtain ⟨x, _, hx⟩ := List.mem_flatMap.1 hu
    exact h1 x u hx) h63 hbytes hbase
  exact ⟨v', w', hr, by unfold OwnRows; rw [List.length_append, List.flatMap_append]; exact ho, hg, hb⟩
theorem OwnRows.append {P : Program} {t : TypeId} (ty : TypeId) {bytes : Nat} {i : TypeInfo} {z : Value} (ht : P.underlying t = some (.slice e)) (hi : P.info? e = some i) (hz : i.zero = some z) (hsize : i.size = m) (hby : i.bytes = bytes) (hzs : z.cells.size = m) (hsz : 0 < m)
    (hf : ∀ x, (f x).length = m) (h1 : ∀ x, ∀ u ∈ f x, u.oneCell' = true) (h : OwnRows e m f w B v xs) {A : Option Addr} {c : Nat} (hv : RowsAt m f w (.slice A ys.length c) ys) (h63 : xs.length + ys.length ≤ maxLen) (hbytes : (xs.length + ys.length) * bytes ≤ 140737488355328) (hbase : B ≤ w.heap.size) :
    ∃ v' w', (Builtin.append_ #[t, t] ty #[v, .slice A ys.length c]).run P w = .ok v' w' ∧ OwnRows e m f w' B v' (xs ++ ys) ∧ w.grownBy w' v.ownBlock := by
  obtain ⟨v', w', hr, h2, h3, _⟩ := OwnRows.append2 (P := P) ty ht hi hz hsize hby hzs hsz hf h1 h hv h63 hbytes hbase
  exact ⟨v', w', hr, h2, h3⟩
theorem OwnRows.grown {W : World} (h : OwnRows e m f w W.heap.size v xs) (hx : Ext W w) (hg : w.grownBy w' v.ownBlock) : Ext W w' := Below.grown hx hg hx.size fun k hk => (h.lt k hk).1
end
theorem intsV_append (a b : List Int) : intsV (a ++ b) = intsV a ++ intsV b := by simp [intsV]
theorem OwnInts.append2 {w : World} {B : Nat} {u : Value} {l m : List Int} {A : Option Addr} {c : Nat} (ty : TypeId) (h : OwnInts w B u l) (hv : IntsAt w (.slice A m.length c) m) (hlen : l.length + m.length ≤ 100000000) (hb : B ≤ w.heap.size) :
    ∃ u' w', (Builtin.append_ #[27, 27] ty #[u, .slice A m.length c]).run Try.prog w = .ok u' w' ∧ OwnInts w' B u' (l ++ m) ∧ w.grownBy w' u.ownBlock ∧ (u'.ownBlock = u.ownBlock ∨ u'.ownBlock = some w.heap.size) := by
  obtain ⟨i0, I0, I1, I2, I3⟩ := info_parts Try.infoInt
  obtain ⟨A', c', hv', hA⟩ := hv
  simp only [Value.slice.injEq, true_and] at hv'
  obtain ⟨rfl, rfl⟩ := hv'
  obtain ⟨u', w', hr, ho, hg, hbb⟩ := own_append2 (P := Try.prog) ty Try.underlying27 I0 I1 I2 I3 rfl (by decide) h (A := A) (m := m.length) c (news := intsV m) (by simp [intsV]) (fun h0 => by
    obtain ⟨b, o, rfl, hb, hc⟩ := hA h0
    refine ⟨_, rfl, fun j x hj => ?_⟩
    rw [Addr.add_lit]
    simp only [intsV, List.getElem?_map, Option.map_eq_some_iff] at hj
    obtain ⟨y, hy, rfl⟩ := hj
    exact hc j y hy) (fun x hx => by
    obtain ⟨y, _, rfl⟩ := List.mem_map.1 hx
    rfl) (by unfold maxLen; omega) (by omega) hb
  exact ⟨u', w', hr, by unfold OwnInts; rw [List.length_append, intsV_append]; exact ho, hg, hbb⟩
theorem OwnInts.appendS {w : World} {B : Nat} {u : Value} {l m : List Int} {A : Option Addr} {c : Nat} (ty : TypeId) (h : OwnInts w B u l) (hv : IntsAt w (.slice A m.length c) m) (hlen : l.length + m.length ≤ 100000000) (hb : B ≤ w.heap.size) :
    ∃ u' w', (Builtin.append_ #[27, 27] ty #[u, .slice A m.length c]).run Try.prog w = .ok u' w' ∧ OwnInts w' B u' (l ++ m) ∧ w.grownBy w' u.ownBlock := by
  obtain ⟨v', w', hr, h2, h3, _⟩ := OwnInts.append2 ty h hv hlen hb
  exact ⟨v', w', hr, h2, h3⟩
theorem ints_one (v : World) (x : Int) : IntsAt (v.alloc (.cells #[.int .i64 x] 3)) (.slice (some ⟨v.heap.size, 0, none⟩) 1 1) [x] := by
  refine ⟨_, 1, rfl, fun _ => ⟨v.heap.size, 0, rfl, by simp, fun j p hj => ?_⟩⟩
  match j with
  | 0 => simp at hj; subst hj; exact blk_cell (blk_new v _) 0 _ rfl
  | j + 1 => simp at hj
structure Ri where
  buf : List Int
  head : Int
  n : Int
def Ri.cells (r : Ri) : Array Value := (r.buf.map (Value.int .i64) ++ [Value.int .i64 r.head, Value.int .i64 r.n]).toArray
def Ri.okAt (r : Ri) (j : Nat) : Bool := if (j + 8 - r.head.toNat) % 8 < r.n.toNat then decide (0 < r.buf[j]?.getD 0) else decide (r.buf[j]?.getD 0 = 0)
def Ri.inside (r : Ri) : Bool := decide (0 ≤ r.head) && decide (r.head < 8) && decide (0 ≤ r.n) && decide (r.n ≤ 8)
def Ri.may (r : Ri) : Bool := r.inside && (List.range 8).all r.okAt
def Ri.elem (r : Ri) (i : Nat) : Int := r.buf[(r.head.toNat + i) % 8]?.getD 0
def Ri.list (r : Ri) : List Int := if r.may then (List.range r.n.toNat).map r.elem else []
theorem Ri.inside_iff (r : Ri) : r.inside = true ↔ (0 ≤ r.head ∧ r.head < 8) ∧ 0 ≤ r.n ∧ r.n ≤ 8 := by
  unfold Ri.inside; simp only [Bool.and_eq_true, decide_eq_true_eq]; omega
theorem Ri.inside_nat {r : Ri} (h : r.inside = true) : ∃ hd nn : Nat, r.head = hd ∧ r.n = nn ∧ hd < 8 ∧ nn ≤ 8 := by
  obtain ⟨⟨h1, h2⟩, h3, h4⟩ := r.inside_iff.1 h
  exact ⟨r.head.toNat, r.n.toNat, by omega, by omega, by omega, by omega⟩
theorem list8 {α : Type} {l : List α} (h : l.length = 8) : ∃ b0 b1 b2 b3 b4 b5 b6 b7, l = [b0, b1, b2, b3, b4, b5, b6, b7] := by
  match l, h with
  | [b0, b1, b2, b3, b4, b5, b6, b7], _ => exact ⟨b0, b1, b2, b3, b4, b5, b6, b7, rfl⟩
theorem Ri.cells_buf {r : Ri} (h : r.buf.length = 8) (j : Nat) (hj : j < 8) : r.cells[j]? = some (.int .i64 (r.buf[j]?.getD 0)) := by
  unfold Ri.cells
  rw [List.getElem?_toArray, List.getElem?_append_left (by simpa [h] using hj), List.getElem?_map, List.getElem?_eq_getElem (by omega)]
  rfl
theorem Ri.cells_set {r : Ri} (h : r.buf.length = 8) (j : Nat) (hj : j < 8) (x : Int) : r.cells.setIfInBounds j (.int .i64 x) = (⟨r.buf.set j x, r.head, r.n⟩ : Ri).cells := by
  obtain ⟨bs, hd, n⟩ := r
  obtain ⟨b0, b1, b2, b3, b4, b5, b6, b7, rfl⟩ := list8 h
  rcases j with _ | _ | _ | _ | _ | _ | _ | _ | j
  · rfl
  · rfl
  · rfl
  · rfl
  · rfl
  · rfl
  · rfl
  · rfl
  · omega
def upto {α : Type} (f : Nat → α) (k : Nat) : List α := (List.range k).map f
theorem upto_succ {α : Type} (f : Nat → α) (k : Nat) : upto f (k + 1) = upto f k ++ [f k] := by simp [upto, List.range_succ]
theorem upto_len {α : Type} (f : Nat → α) (k : Nat) : (upto f k).length = k := by simp [upto]
abbrev I8 := { p : Int × Int // 0 ≤ p.1 ∧ p.1 < 8 }
def Ri.pair (hd : Nat) (bs : List Int) (i : Nat) : I8 := ⟨(((hd : Int) + (i : Int)) % 8, bs[(hd + i) % 8]?.getD 0), by simp only; omega, by simp only; omega⟩
def Ri.zeroed (hd : Nat) (bs : List Int) : Nat → List Int
  | 0 => bs
  | k + 1 => (Ri.zeroed hd bs k).set ((hd + k) % 8) 0
theorem Ri.zeroed_len (hd : Nat) (bs : List Int) : ∀ k, (Ri.zeroed hd bs k).length = bs.length
  | 0 => rfl
  | k + 1 => by unfold Ri.zeroed; rw [List.length_set, Ri.zeroed_len hd bs k]
theorem Ri.zeroed_get {hd : Nat} (h : hd < 8) {bs : List Int} (hb : bs.length = 8) (j : Nat) (hj : j < 8) : ∀ k, k ≤ 8 → (Ri.zeroed hd bs k)[j]?.getD 0 = if (j + 8 - hd) % 8 < k then 0 else bs[j]?.getD 0
  | 0, _ => by simp [Ri.zeroed]
  | k + 1, hk => by
    have ih := Ri.zeroed_get h hb j hj k (by omega)
    have hl := Ri.zeroed_len hd bs k
    unfold Ri.zeroed
    by_cases he : (hd + k) % 8 = j
    · rw [he, List.getElem?_set_self (by omega), if_pos (by omega)]
      rfl
    · rw [List.getElem?_set_ne he, ih]
      by_cases hlt : (j + 8 - hd) % 8 < k
      · rw [if_pos hlt, if_pos (by omega)]
      · rw [if_neg hlt, if_neg (by omega)]
theorem Ri.may_iff {hd nn : Nat} (h : hd < 8) (hn : nn ≤ 8) {bs : List Int} (hb : bs.length = 8) :
    Ri.may ⟨bs, hd, nn⟩ = true ↔ (∀ i < nn, 1 ≤ bs[(hd + i) % 8]?.getD 0) ∧ Ri.zeroed hd bs nn = [0, 0, 0, 0, 0, 0, 0, 0] := by
  have hi : Ri.inside ⟨bs, hd, nn⟩ = true := (Ri.inside_iff _).2 (by simp only; omega)
  unfold Ri.may
  rw [hi, Bool.true_and, List.all_eq_true]
  simp only [List.mem_range, Ri.okAt, Int.toNat_natCast]
  constructor
  · intro hk
    refine ⟨fun i hi => ?_, ?_⟩
    · have h1 := hk ((hd + i) % 8) (by omega)
      rw [if_pos (by omega)] at h1
      have := of_decide_eq_true h1
      omega
    · apply List.ext_getElem?
      intro j
      by_cases hj : j < 8
      · have h1 := Ri.zeroed_get h hb j hj nn hn
        have h2 := hk j hj
        have hl : j < (Ri.zeroed hd bs nn).length := by rw [Ri.zeroed_len]; omega
        rw [List.getElem?_eq_getElem hl] at h1 ⊢
        simp only [Option.getD_some] at h1
        have h3 : (Ri.zeroed hd bs nn)[j] = 0 := by
          rw [h1]
          split
          · rfl
          · rename_i hlt; rw [if_neg hlt] at h2; exact of_decide_eq_true h2
        rw [h3]
        rcases j with _ | _ | _ | _ | _ | _ | _ | _ | j
        · rfl
        · rfl
        · rfl
        · rfl
        · rfl
        · rfl
        · rfl
        · rfl
        · omega
      · rw [List.getElem?_eq_none (by rw [Ri.zeroed_len]; omega), List.getElem?_eq_none (by simp; omega)]
  · rintro ⟨h1, h2⟩ j hj
    have h3 := Ri.zeroed_get h hb j hj nn hn
    rw [h2] at h3
    split
    · rename_i hlt
      have h4 := h1 ((j + 8 - hd) % 8) hlt
      have h5 : (hd + (j + 8 - hd) % 8) % 8 = j := by omega
      rw [h5] at h4
      exact decide_eq_true (by omega)
    · rename_i hlt
      rw [if_neg hlt] at h3
      have h4 : ([0, 0, 0, 0, 0, 0, 0, 0] : List Int)[j]?.getD 0 = 0 := by
        rcases j with _ | _ | _ | _ | _ | _ | _ | _ | j
        · rfl
        · rfl
        · rfl
        · rfl
        · rfl
        · rfl
        · rfl
        · rfl
        · omega
      rw [h4] at h3
      exact decide_eq_true h3.symm
def Ri.rest (bs : List Int) (pre : List I8) : List Int := pre.foldl (fun b p => b.set p.1.1.toNat 0) bs
theorem Ri.rest_snoc (bs : List Int) (pre : List I8) (x : I8) : Ri.rest bs (pre ++ [x]) = (Ri.rest bs pre).set x.1.1.toNat 0 := by simp [Ri.rest]
theorem Ri.rest_len (bs : List Int) : ∀ pre : List I8, (Ri.rest bs pre).length = bs.length := by
  have : ∀ (pre : List I8) (bs : List Int), (Ri.rest bs pre).length = bs.length := by
    intro pre
    induction pre with
    | nil => intro _; rfl
    | cons p pre ih => intro bs; unfold Ri.rest; rw [List.foldl_cons]; have := ih (bs.set p.1.1.toNat 0); unfold Ri.rest at this; rw [this, List.length_set]
  exact fun pre => this pre bs
theorem Ri.rest_upto (hd : Nat) (bs : List Int) : ∀ k, Ri.rest bs (upto (Ri.pair hd bs) k) = Ri.zeroed hd bs k
  | 0 => rfl
  | k + 1 => by
    rw [upto_succ, Ri.rest_snoc, Ri.rest_upto hd bs k]
    have : (Ri.pair hd bs k).1.1.toNat = (hd + k) % 8 := by unfold Ri.pair; simp only; omega
    rw [this]
    rfl
theorem Ri.pos_upto (hd : Nat) (bs : List Int) (k : Nat) : (∀ p ∈ upto (Ri.pair hd bs) k, 1 ≤ p.1.2) ↔ ∀ i < k, 1 ≤ bs[(hd + i) % 8]?.getD 0 := by
  unfold upto
  simp only [List.mem_map, List.mem_range]
  constructor
  · intro h i hi
    exact h _ ⟨i, hi, rfl⟩
  · rintro h p ⟨i, hi, rfl⟩
    exact h i hi
open Go.RowKit Go.Shelf
attribute [local go_sem] Oper.semAt_some
def RingIn (g : Nat) (r : Ri) (W : World) : Prop := W.heap[g]? = some (.cells r.cells 38 (0, 0))
def KeepsAt (g : Nat) (W W' : World) : Prop := ∀ o, W.heap[g]? = some o → W'.heap[g]? = some o
abbrev encs2 (p : I8) : Array Value := #[.int .i64 p.1.1, .int .i64 p.1.2]
theorem RingIn.buf {g : Nat} {r : Ri} {W : World} (h : RingIn g r W) (hl : r.buf.length = 8) (j : Nat) (hj : j < 8) : W.cell? ⟨g, j, none⟩ = some (.int .i64 (r.buf[j]?.getD 0)) := blk_cell h j _ (Ri.cells_buf hl j hj)
theorem RingIn.head {g : Nat} {r : Ri} {W : World} (h : RingIn g r W) (hl : r.buf.length = 8) : W.cell? ⟨g, 8, none⟩ = some (.int .i64 r.head) ∧ W.cell? ⟨g, 9, none⟩ = some (.int .i64 r.n) := by
  obtain ⟨bs, hd, n⟩ := r
  obtain ⟨b0, b1, b2, b3, b4, b5, b6, b7, rfl⟩ := list8 hl
  exact ⟨blk_cell h 8 _ rfl, blk_cell h 9 _ rfl⟩
set_option maxRecDepth 100000 in
set_option maxHeartbeats 1000000 in
theorem elems1 (F : Fence) (n : Nat) (h18 : F.fn 126) (hro : F.round = none) (hn : 1 ≤ n) (l g hd nn : Nat) (bs : List Int) (hbs : bs.length = 8) (hhd : hd < 8) (hnn : nn ≤ 8) (J Jx : List I8 → World → Prop)
    (hY : ∀ pre x W, J pre W → pre.length < nn → YieldAt F (n - 1) Try.prog l (encs2 x) W fun e W' =>
      (e = .returned (.bool true) ∧ J (pre ++ [x]) W' ∧ KeepsAt g W W') ∨ (e = .returned (.bool false) ∧ Jx (pre ++ [x]) W'))
    (W : World) (hB : RingIn g ⟨bs, hd, nn⟩ W) (h0 : J [] W) :
    CallsIn F n Try.prog 126 #[.func (.yield l) #[] #[], .pointer (some ⟨g, 0, none⟩)] W fun e W' => (∃ v, e = .returned v) ∧
      ((∃ ys, ys = upto (Ri.pair hd bs) nn ∧ J ys W') ∨ (∃ pre, (∃ k, k ≤ nn ∧ pre = upto (Ri.pair hd bs) k) ∧ Jx pre W')) := by
  obtain ⟨hc8, hc9⟩ := hB.head hbs
  have HB := Lib.hid hB
  simp only at hc8 hc9
  refine callsIn_of_wp Try.func126 rfl h18 ?_ hro
  simp only [Try.ntmps126, List.size_toArray, List.length_cons, List.length_nil, Nat.reduceAdd, Nat.reduceSub, Array.replicate_succ, Array.replicate_zero, List.push_toArray, List.append_toArray, List.nil_append, List.cons_append]
  gi_wp2
  gi_loopw [7] (fun i wr => ∃ k : Nat, k ≤ nn ∧ i = .int .i64 k ∧ J (upto (Ri.pair hd bs) k) wr ∧ KeepsAt g W wr)
    (fun i _ => nn - (intOf i).toNat)
  case atStart => exact ⟨0, Nat.zero_le _, rfl, h0, fun _ h => h⟩
  case round =>
    obtain ⟨k, hk, rfl, hJs, hnx⟩ := hrel
    have HN : RingIn g ⟨bs, hd, nn⟩ wr := hnx _ HB.out
    have hcx : ∀ j, j < 8 → wr.cell? ⟨g, j, none⟩ = some (.int .i64 (bs[j]?.getD 0)) := fun j hj => HN.buf hbs j hj
    have hc8' : wr.cell? ⟨g, 8, none⟩ = some (.int .i64 (hd : Int)) := (HN.head hbs).1
    clear HN
    by_cases hlt : k < nn
    · obtain ⟨fn, tmps, assign, body, hy, hR⟩ := hY _ (Ri.pair hd bs k) wr hJs (by rw [upto_len]; exact hlt)
      have hat := hcx ((hd + k) % 8) (by omega)
      have e1 : IntKind.i64.wrap ((hd : Int) + (k : Int)) = ((hd + k : Nat) : Int) := IntWalk.i64_in _ (by omega)
      have e2 : ((hd + k : Nat) : Int).tmod 8 = (((hd + k) % 8 : Nat) : Int) := by rw [Int.tmod_eq_emod_of_nonneg (by omega)]; omega
      have e3 : (0 : Int) ≤ (((hd + k) % 8 : Nat) : Int) := by omega
      have e4 : (((hd + k) % 8 : Nat) : Int) < 8 := by omega
      dsimp only [encs2, Ri.pair] at hy
      clear hcx
      gi_wp2
      refine hR.mono ?_
      rintro e W3 (⟨rfl, hJ3, hk3⟩ | ⟨rfl, hJx3⟩)
      · gi_wp2
        go_roundw
        case rel => exact ⟨k + 1, by omega, by simp, by rw [upto_succ]; exact hJ3, fun o ho => hk3 o (hnx o ho)⟩
        case measure => simp [intOf]; omega
      · gi_wp2
        refine bodyPost_ret (results_none rfl _ _ _) rfl ?_
        exact ⟨⟨_, rfl⟩, .inr ⟨_, ⟨k + 1, by omega, (upto_succ _ _).symm⟩, hJx3⟩⟩
    · obtain rfl : k = nn := by omega
      gi_wp2
      go_end0
      exact ⟨⟨_, rfl⟩, .inl ⟨_, rfl, hJs⟩⟩
set_option maxRecDepth 100000 in
set_option maxHeartbeats 1000000 in
theorem elements_in (F : Fence) (n : Nat) (h17 : F.fn 113) (hro : F.round = none) (b0 b1 b2 b3 b4 b5 b6 b7 hd nn : Int) (w : World) :
    CallsIn F n Try.prog 113 #[.agg #[.int .i64 b0, .int .i64 b1, .int .i64 b2, .int .i64 b3, .int .i64 b4, .int .i64 b5, .int .i64 b6, .int .i64 b7, .int .i64 hd, .int .i64 nn]] w fun e w' =>
      e = .returned (.func (.func 126) #[] #[.pointer (some ⟨w.heap.size, 0, none⟩)]) ∧ w' = w.alloc (.cells #[.int .i64 b0, .int .i64 b1, .int .i64 b2, .int .i64 b3, .int .i64 b4, .int .i64 b5, .int .i64 b6, .int .i64 b7, .int .i64 hd, .int .i64 nn] 38) := by
  refine callsIn_of_wp Try.func113 rfl h17 ?_ hro
  simp only [Try.ntmps113, List.size_toArray, List.length_cons, List.length_nil, Nat.reduceAdd, Nat.reduceSub, Array.replicate_succ, Array.replicate_zero, List.push_toArray, List.append_toArray, List.nil_append, List.cons_append]
  gi_wp2
  go_ret
  exact ⟨rfl, rfl⟩
theorem elements_stops (F : Fence) (n : Nat) (h18 : F.fn 126) (hro : F.round = none) (hn : 1 ≤ n) (g hd nn : Nat) (bs : List Int) (hbs : bs.length = 8) (hhd : hd < 8) (hnn : nn ≤ 8) (w : World) (hg : g < w.heap.size) (hB : RingIn g ⟨bs, hd, nn⟩ w) :
    SeqStopsK F n Try.prog 126 #[.pointer (some ⟨g, 0, none⟩)] encs2 (KeepsAt g) (fun ys => ys = upto (Ri.pair hd bs) nn) (fun pre => ∃ k, k ≤ nn ∧ pre = upto (Ri.pair hd bs) k) nn w := fun l J Jx W hW _ _ hY h0 =>
  elems1 F n h18 hro hn l g hd nn bs hbs hhd hnn J Jx hY W ((hW.block g hg).trans hB) h0
open Go.RowKit Go.Shelf
attribute [local go_sem] Oper.semAt_some
set_option maxRecDepth 100000 in
set_option maxHeartbeats 1000000 in
theorem rmay_out (b0 b1 b2 b3 b4 b5 b6 b7 hd nn : Int) (w : World) (h : hd < 0 ∨ (0 ≤ hd ∧ (8 ≤ hd ∨ (hd < 8 ∧ (nn < 0 ∨ (0 ≤ nn ∧ 8 < nn)))))) :
    Calls Try.prog 67 #[.agg #[.int .i64 b0, .int .i64 b1, .int .i64 b2, .int .i64 b3, .int .i64 b4, .int .i64 b5, .int .i64 b6, .int .i64 b7, .int .i64 hd, .int .i64 nn]] w fun e w' => e = .returned (.bool false) ∧ Ext w w' := by
  have hzb := blk_new (w.alloc (.cells #[.int .i64 b0, .int .i64 b1, .int .i64 b2, .int .i64 b3, .int .i64 b4, .int .i64 b5, .int .i64 b6, .int .i64 b7, .int .i64 hd, .int .i64 nn] 38)) (.cells #[.bool false] 4)
  rw [World.size_alloc] at hzb
  have z0 := blk_cell hzb 0 (.bool false) rfl
  have y0 := frozen_of_row _ _ 0 _ _ hzb
  clear hzb
  rcases h with h | ⟨h1, h | ⟨h2, h | ⟨h3, h⟩⟩⟩
  all_goals
    go_enter Try.func67, Try.ntmps67
    go_wp2
    refine bodyPost_ret (v := .bool false) (by simp [results, Try.results67, go_sem]) rfl ⟨rfl, ?_⟩
    exact ((Ext.refl w).alloc _).alloc _
open Go.RowKit Go.Shelf
attribute [local go_sem] Oper.semAt_some
theorem keepsAt_t (g : Nat) {A B C : World} (h : KeepsAt g A B) (k : KeepsAt g B C) : KeepsAt g A C := fun o ho => k o (h o ho)
theorem keepsAt_b {g : Nat} {w : World} (hg : g < w.heap.size) (W : World) (l : Nat) (o o' : Obj) (hl : w.heap.size ≤ l) (_ : W.heap[l]? = some o) (_ : o.isCells = false) (_ : o.isWalk = false) : KeepsAt g W (W.putObj l o') :=
  fun _ h => (World.putObj_heap_other (by omega)).trans h
theorem keepsAt_set {g b : Nat} (W : World) (hne : b ≠ g) (i : Nat) (v : Value) : KeepsAt g W (W.setCell ⟨b, i, none⟩ v) := fun _ h => blk_set_other h _ hne v
theorem blk_own {β : Type} (B : Nat) (f : β → Obj) (hf : ∀ s, (f s).isCells = true) : Own (fun s (W : World) => W.heap[B]? = some (f s)) := fun s X Y row hs hg hrow =>
  (hg.block B (blk_lt hs) (fun e' => by obtain ⟨o, ho, hc⟩ := hrow B e'.symm; rw [hs] at ho; cases ho; rw [hf s] at hc; cases hc)).trans hs
def bufCells (bs : List Int) : Array Value := (bs.map (Value.int .i64)).toArray
theorem bufCells_at {bs : List Int} {j : Nat} (hj : j < bs.length) : (bufCells bs)[j]? = some (.int .i64 bs[j]) := by
  unfold bufCells; rw [List.getElem?_toArray, List.getElem?_map, List.getElem?_eq_getElem hj]; rfl
theorem bufCells_set (bs : List Int) (j : Nat) (x : Int) : (bufCells bs).setIfInBounds j (.int .i64 x) = bufCells (bs.set j x) := by
  unfold bufCells; rw [List.setIfInBounds_toArray, List.map_set]
theorem run_eqItems_ints (d : Nat) (f g : Nat → Int) (xs ys : Array Value) (w : World) : ∀ is : List Nat, (∀ i ∈ is, xs[i]? = some (.int .i64 (f i)) ∧ ys[i]? = some (.int .i64 (g i))) →
    (Op.eqItems (d + 1) 3 1 xs ys is).run Try.prog w = .ok (is.all fun i => f i == g i) w
  | [], _ => by simp [Op.eqItems]
  | i :: is, h => by
    obtain ⟨h1, h2⟩ := h i (by simp)
    have ih := run_eqItems_ints d f g xs ys w is fun j hj => h j (by simp [hj])
    have p1 := run_part_plain (P := Try.prog) w (e := 3) (by kernel_rfl) (xs := xs) (off := i * 1) (by rw [Nat.mul_one]; exact h1)
    have p2 := run_part_plain (P := Try.prog) w (e := 3) (by kernel_rfl) (xs := ys) (off := i * 1) (by rw [Nat.mul_one]; exact h2)
    simp only [Op.eqItems, Sem.run_bind, p1, p2, Result.andThen_ok, run_equalIn_int w d 3 .i64 .i64 (f i) (g i) Try.underlying3, List.all_cons]
    cases hb : (f i == g i) with
    | false => simp
    | true => simpa using ih
set_option maxRecDepth 100000 in
theorem run_eq8 (bs cs : List Int) (hb : bs.length = 8) (hc : cs.length = 8) (b : Bool) (h : decide (bs = cs) = b) (w : World) :
    (Op.equalIn 10000 36 (.agg (bufCells bs)) (.agg (bufCells cs))).run Try.prog w = .ok b w := by
  obtain ⟨i, hi⟩ := info_of_underlying Try.underlying3
  have e1 : Try.prog.cellsOf 3 = 1 := by kernel_rfl
  rw [show 10000 = 9998 + 1 + 1 from rfl, run_equalIn_array (P := Try.prog) w (9998 + 1) _ _ Try.underlying36 hi, e1]
  rw [run_eqItems_ints 9998 (fun i => bs[i]?.getD 0) (fun i => cs[i]?.getD 0) _ _ w _ fun j hj => by
    have hj' := List.mem_range.1 hj
    rw [bufCells_at (by omega), bufCells_at (by omega), List.getElem?_eq_getElem (by omega), List.getElem?_eq_getElem (by omega)]
    exact ⟨rfl, rfl⟩]
  obtain ⟨b0, b1, b2, b3, b4, b5, b6, b7, rfl⟩ := list8 hb
  obtain ⟨c0, c1, c2, c3, c4, c5, c6, c7, rfl⟩ := list8 hc
  subst h
  congr 1
  rw [Bool.eq_iff_iff]
  simp [List.range_succ, List.all_append]
set_option maxRecDepth 100000 in
set_option maxHeartbeats 2000000 in
theorem rmay_in (b0 b1 b2 b3 b4 b5 b6 b7 : Int) (hd nn : Nat) (hhd : hd < 8) (hnn : nn ≤ 8) (m : Bool) (hm : Ri.may ⟨[b0, b1, b2, b3, b4, b5, b6, b7], hd, nn⟩ = m) (w : World) :
    Calls Try.prog 67 #[.agg #[.int .i64 b0, .int .i64 b1, .int .i64 b2, .int .i64 b3, .int .i64 b4, .int .i64 b5, .int .i64 b6, .int .i64 b7, .int .i64 (hd : Int), .int .i64 (nn : Int)]] w fun e w' => e = .returned (.bool m) ∧ Ext w w' := by
  have hmi := Ri.may_iff hhd hnn (bs := [b0, b1, b2, b3, b4, b5, b6, b7]) rfl
  rw [hm] at hmi
  have HMI := Lib.hid hmi
  clear hmi hm
  have i0 : (0 : Int) ≤ (hd : Int) := by omega
  have i1 : (hd : Int) < 8 := by omega
  have i2 : (0 : Int) ≤ (nn : Int) := by omega
  have i3 : (nn : Int) ≤ 8 := by omega
  refine (callsIn_wide (n := 3)).1 ?_
  have h1 : 1 ≤ 3 := by omega
  refine callsIn_of_wp_marks Try.func67 rfl trivial ?_ rfl
  simp only [Try.ntmps67, List.size_toArray, List.length_cons, List.length_nil, Nat.reduceAdd, Nat.reduceSub, Array.replicate_succ, Array.replicate_zero, List.push_toArray, List.append_toArray, List.nil_append, List.cons_append]
  gi_wp2_with (refine ⟨trivial, ?_⟩; gi_at_call 113; refine (elements_in Fence.wide (3 - 1) trivial rfl _ _ _ _ _ _ _ _ _ _ _).mono ?_; rintro e w' ⟨rfl, rfl⟩)
  have hA1 : ((((w.alloc (.cells #[.int .i64 b0, .int .i64 b1, .int .i64 b2, .int .i64 b3, .int .i64 b4, .int .i64 b5, .int .i64 b6, .int .i64 b7, .int .i64 (hd : Int), .int .i64 (nn : Int)] 38)).alloc (.cells #[.bool false] 4)).alloc (.cells #[.int .i64 b0, .int .i64 b1, .int .i64 b2, .int .i64 b3, .int .i64 b4, .int .i64 b5, .int .i64 b6, .int .i64 b7] 36)).alloc (.cells #[.int .i64 b0, .int .i64 b1, .int .i64 b2, .int .i64 b3, .int .i64 b4, .int .i64 b5, .int .i64 b6, .int .i64 b7, .int .i64 (hd : Int), .int .i64 (nn : Int)] 38)).heap[(w.heap.size + 1)]? = some (.cells #[.bool false] 4 (0, 0)) := by
    have := blk_alloc (blk_alloc (blk_new (w.alloc (.cells #[.int .i64 b0, .int .i64 b1, .int .i64 b2, .int .i64 b3, .int .i64 b4, .int .i64 b5, .int .i64 b6, .int .i64 b7, .int .i64 (hd : Int), .int .i64 (nn : Int)] 38)) (.cells #[.bool false] 4)) (.cells #[.int .i64 b0, .int .i64 b1, .int .i64 b2, .int .i64 b3, .int .i64 b4, .int .i64 b5, .int .i64 b6, .int .i64 b7] 36)) (.cells #[.int .i64 b0, .int .i64 b1, .int .i64 b2, .int .i64 b3, .int .i64 b4, .int .i64 b5, .int .i64 b6, .int .i64 b7, .int .i64 (hd : Int), .int .i64 (nn : Int)] 38)
    rwa [World.size_alloc] at this
  have hA2 : ((((w.alloc (.cells #[.int .i64 b0, .int .i64 b1, .int .i64 b2, .int .i64 b3, .int .i64 b4, .int .i64 b5, .int .i64 b6, .int .i64 b7, .int .i64 (hd : Int), .int .i64 (nn : Int)] 38)).alloc (.cells #[.bool false] 4)).alloc (.cells #[.int .i64 b0, .int .i64 b1, .int .i64 b2, .int .i64 b3, .int .i64 b4, .int .i64 b5, .int .i64 b6, .int .i64 b7] 36)).alloc (.cells #[.int .i64 b0, .int .i64 b1, .int .i64 b2, .int .i64 b3, .int .i64 b4, .int .i64 b5, .int .i64 b6, .int .i64 b7, .int .i64 (hd : Int), .int .i64 (nn : Int)] 38)).heap[(w.heap.size + 1 + 1)]? = some (.cells (bufCells [b0, b1, b2, b3, b4, b5, b6, b7]) 36 (0, 0)) := by
    have := blk_alloc (blk_new ((w.alloc (.cells #[.int .i64 b0, .int .i64 b1, .int .i64 b2, .int .i64 b3, .int .i64 b4, .int .i64 b5, .int .i64 b6, .int .i64 b7, .int .i64 (hd : Int), .int .i64 (nn : Int)] 38)).alloc (.cells #[.bool false] 4)) (.cells #[.int .i64 b0, .int .i64 b1, .int .i64 b2, .int .i64 b3, .int .i64 b4, .int .i64 b5, .int .i64 b6, .int .i64 b7] 36)) (.cells #[.int .i64 b0, .int .i64 b1, .int .i64 b2, .int .i64 b3, .int .i64 b4, .int .i64 b5, .int .i64 b6, .int .i64 b7, .int .i64 (hd : Int), .int .i64 (nn : Int)] 38)
    rwa [World.size_alloc, World.size_alloc] at this
  have hA3 : RingIn (w.heap.size + 1 + 1 + 1) ⟨[b0, b1, b2, b3, b4, b5, b6, b7], hd, nn⟩ ((((w.alloc (.cells #[.int .i64 b0, .int .i64 b1, .int .i64 b2, .int .i64 b3, .int .i64 b4, .int .i64 b5, .int .i64 b6, .int .i64 b7, .int .i64 (hd : Int), .int .i64 (nn : Int)] 38)).alloc (.cells #[.bool false] 4)).alloc (.cells #[.int .i64 b0, .int .i64 b1, .int .i64 b2, .int .i64 b3, .int .i64 b4, .int .i64 b5, .int .i64 b6, .int .i64 b7] 36)).alloc (.cells #[.int .i64 b0, .int .i64 b1, .int .i64 b2, .int .i64 b3, .int .i64 b4, .int .i64 b5, .int .i64 b6, .int .i64 b7, .int .i64 (hd : Int), .int .i64 (nn : Int)] 38)) := by
    have := blk_new (((w.alloc (.cells #[.int .i64 b0, .int .i64 b1, .int .i64 b2, .int .i64 b3, .int .i64 b4, .int .i64 b5, .int .i64 b6, .int .i64 b7, .int .i64 (hd : Int), .int .i64 (nn : Int)] 38)).alloc (.cells #[.bool false] 4)).alloc (.cells #[.int .i64 b0, .int .i64 b1, .int .i64 b2, .int .i64 b3, .int .i64 b4, .int .i64 b5, .int .i64 b6, .int .i64 b7] 36)) (.cells #[.int .i64 b0, .int .i64 b1, .int .i64 b2, .int .i64 b3, .int .i64 b4, .int .i64 b5, .int .i64 b6, .int .i64 b7, .int .i64 (hd : Int), .int .i64 (nn : Int)] 38)
    rwa [World.size_alloc, World.size_alloc, World.size_alloc] at this
  have hX0 : Ext w ((((w.alloc (.cells #[.int .i64 b0, .int .i64 b1, .int .i64 b2, .int .i64 b3, .int .i64 b4, .int .i64 b5, .int .i64 b6, .int .i64 b7, .int .i64 (hd : Int), .int .i64 (nn : Int)] 38)).alloc (.cells #[.bool false] 4)).alloc (.cells #[.int .i64 b0, .int .i64 b1, .int .i64 b2, .int .i64 b3, .int .i64 b4, .int .i64 b5, .int .i64 b6, .int .i64 b7] 36)).alloc (.cells #[.int .i64 b0, .int .i64 b1, .int .i64 b2, .int .i64 b3, .int .i64 b4, .int .i64 b5, .int .i64 b6, .int .i64 b7, .int .i64 (hd : Int), .int .i64 (nn : Int)] 38)) := ((((Ext.refl w).alloc _).alloc _).alloc _).alloc _
  have hS3 : ((((w.alloc (.cells #[.int .i64 b0, .int .i64 b1, .int .i64 b2, .int .i64 b3, .int .i64 b4, .int .i64 b5, .int .i64 b6, .int .i64 b7, .int .i64 (hd : Int), .int .i64 (nn : Int)] 38)).alloc (.cells #[.bool false] 4)).alloc (.cells #[.int .i64 b0, .int .i64 b1, .int .i64 b2, .int .i64 b3, .int .i64 b4, .int .i64 b5, .int .i64 b6, .int .i64 b7] 36)).alloc (.cells #[.int .i64 b0, .int .i64 b1, .int .i64 b2, .int .i64 b3, .int .i64 b4, .int .i64 b5, .int .i64 b6, .int .i64 b7, .int .i64 (hd : Int), .int .i64 (nn : Int)] 38)).heap.size = w.heap.size + 4 := by simp [World.size_alloc]
  generalize hW3 : ((((w.alloc (.cells #[.int .i64 b0, .int .i64 b1, .int .i64 b2, .int .i64 b3, .int .i64 b4, .int .i64 b5, .int .i64 b6, .int .i64 b7, .int .i64 (hd : Int), .int .i64 (nn : Int)] 38)).alloc (.cells #[.bool false] 4)).alloc (.cells #[.int .i64 b0, .int .i64 b1, .int .i64 b2, .int .i64 b3, .int .i64 b4, .int .i64 b5, .int .i64 b6, .int .i64 b7] 36)).alloc (.cells #[.int .i64 b0, .int .i64 b1, .int .i64 b2, .int .i64 b3, .int .i64 b4, .int .i64 b5, .int .i64 b6, .int .i64 b7, .int .i64 (hd : Int), .int .i64 (nn : Int)] 38)) = W3 at *
  clear hW3
  apply wpIn_rangeFunc_ownF rfl h1 (gf := 126) (lb := #[.pointer (some ⟨(w.heap.size + 1 + 1 + 1), 0, none⟩)]) rfl trivial (enters_of Try.func126 (by kernel_rfl) rfl)
    (elements_stops Fence.wide (3 - 1) trivial rfl (by omega) (w.heap.size + 1 + 1 + 1) hd nn [b0, b1, b2, b3, b4, b5, b6, b7] rfl hhd hnn W3 (by omega) hA3) (keepsAt_t (w.heap.size + 1 + 1 + 1)) (keepsAt_b (by omega)) (Below.refl _ _) (fun _ => rfl)
    (fun pre W => ((∀ p ∈ pre, 1 ≤ p.1.2) ∧ W.heap[(w.heap.size + 1)]? = some (.cells #[.bool false] 4 (0, 0)) ∧ W.heap[(w.heap.size + 1 + 1)]? = some (.cells (bufCells (Ri.rest [b0, b1, b2, b3, b4, b5, b6, b7] pre)) 36 (0, 0))) ∧ Ext w W)
    (fun c pre W => (c = .ret ∧ (∃ p ∈ pre, p.1.2 < 1) ∧ W.heap[(w.heap.size + 1)]? = some (.cells #[.bool false] 4 (0, 0))) ∧ Ext w W)
    (OwnFrom.and (Own.from (fun s A B row hs hg hr => ⟨hs.1, blk_own (w.heap.size + 1) (fun (_ : Unit) => .cells #[.bool false] 4 (0, 0)) (fun _ => rfl) () A B row hs.2.1 hg hr, blk_own (w.heap.size + 1 + 1) (fun (_ : Unit) => .cells (bufCells (Ri.rest [b0, b1, b2, b3, b4, b5, b6, b7] s)) 36 (0, 0)) (fun _ => rfl) () A B row hs.2.2 hg hr⟩) _) (ownFrom_below (Nat.le_refl _) (by omega)))
    (fun c => OwnFrom.and (Own.from (fun s A B row hs hg hr => ⟨hs.1, hs.2.1, blk_own (w.heap.size + 1) (fun (_ : Unit) => .cells #[.bool false] 4 (0, 0)) (fun _ => rfl) () A B row hs.2.2 hg hr⟩) _) (ownFrom_below (Nat.le_refl _) (by omega)))
    ⟨⟨by simp, hA1, hA2⟩, hX0⟩ _ ?assign ?body ?done ?stop
  case assign =>
    intro l x W K hK
    gi_wp2
    exact hK
  case body =>
    rintro l pre ⟨⟨x1, x2⟩, hx0, hx8⟩ W ⟨⟨hp, hc1, hc2⟩, hB⟩ hlt
    simp only at hx0 hx8
    obtain ⟨a, rfl⟩ : ∃ a : Nat, x1 = a := ⟨x1.toNat, by omega⟩
    have hlen : (Ri.rest [b0, b1, b2, b3, b4, b5, b6, b7] pre).length = 8 := by rw [Ri.rest_len]; rfl
    have ha8 : a < 8 := by omega
    by_cases hx : x2 < 1
    · have z1 := blk_cell hc1 0 (.bool false) rfl
      have y1 := frozen_of_row _ _ 0 _ _ hc1
      gi_wp2
      exact ⟨KeepsOthers.setCell _ _ _, ⟨rfl, ⟨_, List.mem_append.2 (.inr (List.mem_singleton.2 rfl)), hx⟩, blk_set hc1 0 (.bool false)⟩, hB.setCell (p := ⟨(w.heap.size + 1), 0, none⟩) (by simp only; omega) _⟩
    · have z2 := blk_cell hc2 a _ (bufCells_at (by omega))
      have y2 := frozen_of_row _ _ a _ _ hc2
      have hx' : 1 ≤ x2 := by omega
      clear hx
      gi_wp2
      refine ⟨KeepsOthers.setCell _ _ _, keepsAt_set _ (by omega) _ _, ⟨?_, ?_, ?_⟩, hB.setCell (p := ⟨(w.heap.size + 1 + 1), a, none⟩) (by simp only; omega) _⟩
      · intro p hpm
        rcases List.mem_append.1 hpm with h | h
        · exact hp p h
        · rw [List.mem_singleton.1 h]; exact hx'
      · exact blk_set_other hc1 _ (by simp only; omega) _
      · have := blk_set hc2 a (.int .i64 0)
        rw [bufCells_set] at this
        rw [Ri.rest_snoc]
        exact this
  case done =>
    rintro D ys W hD rfl ⟨⟨hp, hc1, hc2⟩, hB⟩ hK
    rw [Ri.rest_upto] at hc2
    have hpos := (Ri.pos_upto hd [b0, b1, b2, b3, b4, b5, b6, b7] nn).1 hp
    have z1 := blk_cell hc1 0 (.bool false) rfl
    have y1 := frozen_of_row _ _ 0 _ _ hc1
    obtain ⟨c0, c1, c2, c3, c4, c5, c6, c7, hcs⟩ := list8 (l := Ri.zeroed hd [b0, b1, b2, b3, b4, b5, b6, b7] nn) (by rw [Ri.zeroed_len]; rfl)
    have hmm := HMI.out
    rw [hcs] at hc2 hmm
    have k0 := blk_cell hc2 0 (.int .i64 c0) rfl
    have k1 := blk_cell hc2 1 (.int .i64 c1) rfl
    have k2 := blk_cell hc2 2 (.int .i64 c2) rfl
    have k3 := blk_cell hc2 3 (.int .i64 c3) rfl
    have k4 := blk_cell hc2 4 (.int .i64 c4) rfl
    have k5 := blk_cell hc2 5 (.int .i64 c5) rfl
    have k6 := blk_cell hc2 6 (.int .i64 c6) rfl
    have k7 := blk_cell hc2 7 (.int .i64 c7) rfl
    have HB := Lib.hid hB
    have HC1 := Lib.hid hc1
    have HK := Lib.hid hK
    clear hB hc1 hK hc2
    cases m with
    | true =>
      obtain ⟨_, hz⟩ := hmm.1 rfl
      simp only [List.cons.injEq, and_true] at hz
      obtain ⟨rfl, rfl, rfl, rfl, rfl, rfl, rfl, rfl⟩ := hz
      have heq := run_eq8 [0, 0, 0, 0, 0, 0, 0, 0] [0, 0, 0, 0, 0, 0, 0, 0] rfl rfl true (decide_eq_true rfl)
      simp only [bufCells, List.map_cons, List.map_nil] at heq
      clear hmm
      gi_wp2
      have HK1 := (KeepsOthers.setCell W ⟨(w.heap.size + 1), 0, none⟩ (.bool true)).same D _ HK.out rfl
      have hc5 := cell_kept (blk_cell (blk_set HC1.out 0 (.bool true)) 0 (.bool true) rfl) (grownBy_putObj' _ D (.deferred none)) (fun r e => by cases e; exact ⟨_, HK1, rfl⟩)
      refine ⟨by simp, .inl ⟨_, _, rfl, run_takeDeferred HK1, ?_⟩⟩
      refine ⟨.bool true, ?_, rfl, Below.trans (show Below w.heap.size w _ from HB.out.setCell (p := ⟨(w.heap.size + 1), 0, none⟩) (by simp only; omega) _) (belowK_b (w := w) (Nat.le_refl _) _ D _ _ (by omega) HK1 rfl rfl)⟩
      simp [results, Try.f67, go_sem, hc5]
    | false =>
      have hz : ¬ ([c0, c1, c2, c3, c4, c5, c6, c7] = [0, 0, 0, 0, 0, 0, 0, 0]) := fun h => by cases hmm.2 ⟨hpos, h⟩
      have heq := run_eq8 [c0, c1, c2, c3, c4, c5, c6, c7] [0, 0, 0, 0, 0, 0, 0, 0] rfl rfl false (decide_eq_false hz)
      simp only [bufCells, List.map_cons, List.map_nil] at heq
      clear hmm
      gi_wp2
      have HK1 := (KeepsOthers.setCell W ⟨(w.heap.size + 1), 0, none⟩ (.bool false)).same D _ HK.out rfl
      have hc5 := cell_kept (blk_cell (blk_set HC1.out 0 (.bool false)) 0 (.bool false) rfl) (grownBy_putObj' _ D (.deferred none)) (fun r e => by cases e; exact ⟨_, HK1, rfl⟩)
      refine ⟨by simp, .inl ⟨_, _, rfl, run_takeDeferred HK1, ?_⟩⟩
      refine ⟨.bool false, ?_, rfl, Below.trans (show Below w.heap.size w _ from HB.out.setCell (p := ⟨(w.heap.size + 1), 0, none⟩) (by simp only; omega) _) (belowK_b (w := w) (Nat.le_refl _) _ D _ _ (by omega) HK1 rfl rfl)⟩
      simp [results, Try.f67, go_sem, hc5]
  case stop =>
    rintro D c pre W hD ⟨k, hk, rfl⟩ ⟨⟨rfl, ⟨p, hpm, hp⟩, hc1⟩, hB⟩ hK
    have hm : m = false := by
      cases hmm : m with
      | false => rfl
      | true =>
        have h2 := (HMI.out.1 hmm).1
        have h3 := (Ri.pos_upto hd [b0, b1, b2, b3, b4, b5, b6, b7] k).2 (fun i hi => h2 i (by omega)) p hpm
        omega
    subst hm
    gi_wp2
    refine ⟨by simp, .inl ⟨_, _, rfl, run_takeDeferred hK, ?_⟩⟩
    have hc5 := cell_kept (blk_cell hc1 0 (.bool false) rfl) (grownBy_putObj' _ D (.deferred none)) (fun r e => by cases e; exact ⟨_, hK, rfl⟩)
    refine ⟨.bool false, ?_, rfl, Below.trans (show Below w.heap.size w W from hB) (belowK_b (w := w) (Nat.le_refl _) W D _ _ (by omega) hK rfl rfl)⟩
    simp [results, Try.f67, go_sem, hc5]
theorem rmay_eq (b0 b1 b2 b3 b4 b5 b6 b7 hd nn : Int) (m : Bool) (hm : Ri.may ⟨[b0, b1, b2, b3, b4, b5, b6, b7], hd, nn⟩ = m) (w : World) :
    Calls Try.prog 67 #[.agg #[.int .i64 b0, .int .i64 b1, .int .i64 b2, .int .i64 b3, .int .i64 b4, .int .i64 b5, .int .i64 b6, .int .i64 b7, .int .i64 hd, .int .i64 nn]] w fun e w' => e = .returned (.bool m) ∧ Ext w w' := by
  cases hi : Ri.inside ⟨[b0, b1, b2, b3, b4, b5, b6, b7], hd, nn⟩ with
  | true =>
    obtain ⟨h, n, rfl, rfl, h1, h2⟩ := Ri.inside_nat hi
    exact rmay_in b0 b1 b2 b3 b4 b5 b6 b7 h n h1 h2 m hm w
  | false =>
    have h0 : m = false := by rw [← hm]; unfold Ri.may; rw [hi]; rfl
    subst h0
    refine rmay_out b0 b1 b2 b3 b4 b5 b6 b7 hd nn w ?_
    have : ¬ ((0 ≤ hd ∧ hd < 8) ∧ 0 ≤ nn ∧ nn ≤ 8) := fun h => by rw [(Ri.inside_iff ⟨[b0, b1, b2, b3, b4, b5, b6, b7], hd, nn⟩).2 h] at hi; cases hi
    omega
def Ri.zero : Ri := ⟨[0, 0, 0, 0, 0, 0, 0, 0], 0, 0⟩
def Ri.push (r : Ri) (g : Int) : Ri × Bool := if r.may && decide (r.n ≠ 8) && decide (1 ≤ g) then (⟨r.buf.set ((r.head.toNat + r.n.toNat) % 8) g, r.head, r.n + 1⟩, true) else (Ri.zero, false)
def Ri.pop (r : Ri) : Ri × Int × Bool := if r.may then (if r.n = 0 then (r, 0, false) else (⟨r.buf.set r.head.toNat 0, (r.head + 1) % 8, r.n - 1⟩, r.buf[r.head.toNat]?.getD 0, true)) else (Ri.zero, 0, false)
theorem set10_at {v : World} {x : Nat} {c0 c1 c2 c3 c4 c5 c6 c7 c8 c9 : Value} {t : TypeId} (h : v.heap[x]? = some (.cells #[c0, c1, c2, c3, c4, c5, c6, c7, c8, c9] t (0, 0))) (d0 d1 d2 d3 d4 d5 d6 d7 d8 d9 : Value) :
    ((((((((((v.setCell ⟨x, 0, none⟩ d0).setCell ⟨x, 1, none⟩ d1).setCell ⟨x, 2, none⟩ d2).setCell ⟨x, 3, none⟩ d3).setCell ⟨x, 4, none⟩ d4).setCell ⟨x, 5, none⟩ d5).setCell ⟨x, 6, none⟩ d6).setCell ⟨x, 7, none⟩ d7).setCell ⟨x, 8, none⟩ d8).setCell ⟨x, 9, none⟩ d9).heap[x]? = some (.cells #[d0, d1, d2, d3, d4, d5, d6, d7, d8, d9] t (0, 0)) := by
  have h' := blk_set (blk_set (blk_set (blk_set (blk_set (blk_set (blk_set (blk_set (blk_set (blk_set h 0 d0) 1 d1) 2 d2) 3 d3) 4 d4) 5 d5) 6 d6) 7 d7) 8 d8) 9 d9
  simp only [List.setIfInBounds_toArray, List.set_cons_zero, List.set_cons_succ] at h'
  exact h'
theorem set10_ext {W v : World} {x : Nat} (h : Ext W v) (hx : W.heap.size ≤ x) (d0 d1 d2 d3 d4 d5 d6 d7 d8 d9 : Value) :
    Ext W ((((((((((v.setCell ⟨x, 0, none⟩ d0).setCell ⟨x, 1, none⟩ d1).setCell ⟨x, 2, none⟩ d2).setCell ⟨x, 3, none⟩ d3).setCell ⟨x, 4, none⟩ d4).setCell ⟨x, 5, none⟩ d5).setCell ⟨x, 6, none⟩ d6).setCell ⟨x, 7, none⟩ d7).setCell ⟨x, 8, none⟩ d8).setCell ⟨x, 9, none⟩ d9) :=
  (((((((((h.setCell hx _).setCell hx _).setCell hx _).setCell hx _).setCell hx _).setCell hx _).setCell hx _).setCell hx _).setCell hx _).setCell hx _
theorem cells10 {v : World} {x : Nat} {c0 c1 c2 c3 c4 c5 c6 c7 c8 c9 : Value} {t : TypeId} (h : v.heap[x]? = some (.cells #[c0, c1, c2, c3, c4, c5, c6, c7, c8, c9] t (0, 0))) :
    (v.cell? ⟨x, 0, none⟩ = some c0 ∧ v.cell? ⟨x, 1, none⟩ = some c1 ∧ v.cell? ⟨x, 2, none⟩ = some c2 ∧ v.cell? ⟨x, 3, none⟩ = some c3 ∧ v.cell? ⟨x, 4, none⟩ = some c4) ∧ v.cell? ⟨x, 5, none⟩ = some c5 ∧ v.cell? ⟨x, 6, none⟩ = some c6 ∧ v.cell? ⟨x, 7, none⟩ = some c7 ∧ v.cell? ⟨x, 8, none⟩ = some c8 ∧ v.cell? ⟨x, 9, none⟩ = some c9 :=
  ⟨⟨blk_cell h 0 _ rfl, blk_cell h 1 _ rfl, blk_cell h 2 _ rfl, blk_cell h 3 _ rfl, blk_cell h 4 _ rfl⟩, blk_cell h 5 _ rfl, blk_cell h 6 _ rfl, blk_cell h 7 _ rfl, blk_cell h 8 _ rfl, blk_cell h 9 _ rfl⟩
theorem frozen10 {v : World} {x : Nat} {cs : Array Value} {t : TypeId} (h : v.heap[x]? = some (.cells cs t (0, 0))) :
    (v.frozen? ⟨x, 0, none⟩ = false ∧ v.frozen? ⟨x, 1, none⟩ = false ∧ v.frozen? ⟨x, 2, none⟩ = false ∧ v.frozen? ⟨x, 3, none⟩ = false ∧ v.frozen? ⟨x, 4, none⟩ = false) ∧ v.frozen? ⟨x, 5, none⟩ = false ∧ v.frozen? ⟨x, 6, none⟩ = false ∧ v.frozen? ⟨x, 7, none⟩ = false ∧ v.frozen? ⟨x, 8, none⟩ = false ∧ v.frozen? ⟨x, 9, none⟩ = false := by
  have k := fun i => frozen_of_row v x i _ _ h
  exact ⟨⟨k 0, k 1, k 2, k 3, k 4⟩, k 5, k 6, k 7, k 8, k 9⟩
set_option maxRecDepth 100000 in
set_option maxHeartbeats 1000000 in
theorem rpush_no (b0 b1 b2 b3 b4 b5 b6 b7 hd nn g : Int) (m : Bool) (hm : Ri.may ⟨[b0, b1, b2, b3, b4, b5, b6, b7], hd, nn⟩ = m) (h : m = false ∨ (m = true ∧ (nn = 8 ∨ (nn ≠ 8 ∧ g < 1)))) (w : World) :
    Calls Try.prog 68 #[.agg #[.int .i64 b0, .int .i64 b1, .int .i64 b2, .int .i64 b3, .int .i64 b4, .int .i64 b5, .int .i64 b6, .int .i64 b7, .int .i64 hd, .int .i64 nn], .int .i64 g] w fun e w' => e = .returned (.tuple #[.agg #[.int .i64 0, .int .i64 0, .int .i64 0, .int .i64 0, .int .i64 0, .int .i64 0, .int .i64 0, .int .i64 0, .int .i64 0, .int .i64 0], .bool false]) ∧ Ext w w' := by
  have HM := Lib.hid hm
  clear hm
  rcases h with rfl | ⟨rfl, h⟩
  · go_enter Try.func68, Try.ntmps68
    go_wp2_with fail
    refine (rmay_eq b0 b1 b2 b3 b4 b5 b6 b7 hd nn _ HM.out _).mono ?_
    rintro r w1 ⟨rfl, hx1⟩
    have HX := Lib.hid ((((Ext.refl w).alloc (.cells #[.int .i64 b0, .int .i64 b1, .int .i64 b2, .int .i64 b3, .int .i64 b4, .int .i64 b5, .int .i64 b6, .int .i64 b7, .int .i64 hd, .int .i64 nn] 38)).alloc (.cells #[.int .i64 0, .int .i64 0, .int .i64 0, .int .i64 0, .int .i64 0, .int .i64 0, .int .i64 0, .int .i64 0, .int .i64 0, .int .i64 0] 38)).trans hx1)
    have HZB : Hid (w1.heap[w.heap.size + 1]? = some (.cells #[.int .i64 0, .int .i64 0, .int .i64 0, .int .i64 0, .int .i64 0, .int .i64 0, .int .i64 0, .int .i64 0, .int .i64 0, .int .i64 0] 38 (0, 0))) := Lib.hid (hx1.blk (by have := blk_new (w.alloc (.cells #[.int .i64 b0, .int .i64 b1, .int .i64 b2, .int .i64 b3, .int .i64 b4, .int .i64 b5, .int .i64 b6, .int .i64 b7, .int .i64 hd, .int .i64 nn] 38)) (.cells #[.int .i64 0, .int .i64 0, .int .i64 0, .int .i64 0, .int .i64 0, .int .i64 0, .int .i64 0, .int .i64 0, .int .i64 0, .int .i64 0] 38); rwa [World.size_alloc] at this))
    have p9 := blk_cell (hx1.blk (blk_alloc (blk_new w (.cells #[.int .i64 b0, .int .i64 b1, .int .i64 b2, .int .i64 b3, .int .i64 b4, .int .i64 b5, .int .i64 b6, .int .i64 b7, .int .i64 hd, .int .i64 nn] 38)) (.cells #[.int .i64 0, .int .i64 0, .int .i64 0, .int .i64 0, .int .i64 0, .int .i64 0, .int .i64 0, .int .i64 0, .int .i64 0, .int .i64 0] 38))) 9 (.int .i64 nn) rfl
    clear hx1
    obtain ⟨⟨z0, z1, z2, z3, z4⟩, z5, z6, z7, z8, z9⟩ := cells10 HZB.out
    obtain ⟨⟨y0, y1, y2, y3, y4⟩, y5, y6, y7, y8, y9⟩ := frozen10 HZB.out
    go_wp2
    have hzz := set10_at HZB.out (.int .i64 0) (.int .i64 0) (.int .i64 0) (.int .i64 0) (.int .i64 0) (.int .i64 0) (.int .i64 0) (.int .i64 0) (.int .i64 0) (.int .i64 0)
    clear z0 z1 z2 z3 z4 z5 z6 z7 z8 z9 y0 y1 y2 y3 y4 y5 y6 y7 y8 y9
    obtain ⟨⟨t0, t1, t2, t3, t4⟩, t5, t6, t7, t8, t9⟩ := cells10 hzz
    refine bodyPost_ret (v := .tuple #[.agg #[.int .i64 0, .int .i64 0, .int .i64 0, .int .i64 0, .int .i64 0, .int .i64 0, .int .i64 0, .int .i64 0, .int .i64 0, .int .i64 0], .bool false]) (by simp [results, Try.results68, go_sem, t0, t1, t2, t3, t4, t5, t6, t7, t8, t9]) rfl ⟨rfl, ?_⟩
    exact set10_ext HX.out (by omega) _ _ _ _ _ _ _ _ _ _
  · rcases h with h | ⟨h, h2⟩
    · have e0 : (nn == 8) = true := by simpa using h
      clear h
      go_enter Try.func68, Try.ntmps68
      go_wp2_with fail
      refine (rmay_eq b0 b1 b2 b3 b4 b5 b6 b7 hd nn _ HM.out _).mono ?_
      rintro r w1 ⟨rfl, hx1⟩
      have HX := Lib.hid ((((Ext.refl w).alloc (.cells #[.int .i64 b0, .int .i64 b1, .int .i64 b2, .int .i64 b3, .int .i64 b4, .int .i64 b5, .int .i64 b6, .int .i64 b7, .int .i64 hd, .int .i64 nn] 38)).alloc (.cells #[.int .i64 0, .int .i64 0, .int .i64 0, .int .i64 0, .int .i64 0, .int .i64 0, .int .i64 0, .int .i64 0, .int .i64 0, .int .i64 0] 38)).trans hx1)
      have HZB : Hid (w1.heap[w.heap.size + 1]? = some (.cells #[.int .i64 0, .int .i64 0, .int .i64 0, .int .i64 0, .int .i64 0, .int .i64 0, .int .i64 0, .int .i64 0, .int .i64 0, .int .i64 0] 38 (0, 0))) := Lib.hid (hx1.blk (by have := blk_new (w.alloc (.cells #[.int .i64 b0, .int .i64 b1, .int .i64 b2, .int .i64 b3, .int .i64 b4, .int .i64 b5, .int .i64 b6, .int .i64 b7, .int .i64 hd, .int .i64 nn] 38)) (.cells #[.int .i64 0, .int .i64 0, .int .i64 0, .int .i64 0, .int .i64 0, .int .i64 0, .int .i64 0, .int .i64 0, .int .i64 0, .int .i64 0] 38); rwa [World.size_alloc] at this))
      have p9 := blk_cell (hx1.blk (blk_alloc (blk_new w (.cells #[.int .i64 b0, .int .i64 b1, .int .i64 b2, .int .i64 b3, .int .i64 b4, .int .i64 b5, .int .i64 b6, .int .i64 b7, .int .i64 hd, .int .i64 nn] 38)) (.cells #[.int .i64 0, .int .i64 0, .int .i64 0, .int .i64 0, .int .i64 0, .int .i64 0, .int .i64 0, .int .i64 0, .int .i64 0, .int .i64 0] 38))) 9 (.int .i64 nn) rfl
      clear hx1
      obtain ⟨⟨z0, z1, z2, z3, z4⟩, z5, z6, z7, z8, z9⟩ := cells10 HZB.out
      obtain ⟨⟨y0, y1, y2, y3, y4⟩, y5, y6, y7, y8, y9⟩ := frozen10 HZB.out
      go_wp2
      have hzz := set10_at HZB.out (.int .i64 0) (.int .i64 0) (.int .i64 0) (.int .i64 0) (.int .i64 0) (.int .i64 0) (.int .i64 0) (.int .i64 0) (.int .i64 0) (.int .i64 0)
      clear z0 z1 z2 z3 z4 z5 z6 z7 z8 z9 y0 y1 y2 y3 y4 y5 y6 y7 y8 y9
      obtain ⟨⟨t0, t1, t2, t3, t4⟩, t5, t6, t7, t8, t9⟩ := cells10 hzz
      refine bodyPost_ret (v := .tuple #[.agg #[.int .i64 0, .int .i64 0, .int .i64 0, .int .i64 0, .int .i64 0, .int .i64 0, .int .i64 0, .int .i64 0, .int .i64 0, .int .i64 0], .bool false]) (by simp [results, Try.results68, go_sem, t0, t1, t2, t3, t4, t5, t6, t7, t8, t9]) rfl ⟨rfl, ?_⟩
      exact set10_ext HX.out (by omega) _ _ _ _ _ _ _ _ _ _
    · have e0 : (nn == 8) = false := by simpa using h
      clear h
      go_enter Try.func68, Try.ntmps68
      go_wp2_with fail
      refine (rmay_eq b0 b1 b2 b3 b4 b5 b6 b7 hd nn _ HM.out _).mono ?_
      rintro r w1 ⟨rfl, hx1⟩
      have HX := Lib.hid ((((Ext.refl w).alloc (.cells #[.int .i64 b0, .int .i64 b1, .int .i64 b2, .int .i64 b3, .int .i64 b4, .int .i64 b5, .int .i64 b6, .int .i64 b7, .int .i64 hd, .int .i64 nn] 38)).alloc (.cells #[.int .i64 0, .int .i64 0, .int .i64 0, .int .i64 0, .int .i64 0, .int .i64 0, .int .i64 0, .int .i64 0, .int .i64 0, .int .i64 0] 38)).trans hx1)
      have HZB : Hid (w1.heap[w.heap.size + 1]? = some (.cells #[.int .i64 0, .int .i64 0, .int .i64 0, .int .i64 0, .int .i64 0, .int .i64 0, .int .i64 0, .int .i64 0, .int .i64 0, .int .i64 0] 38 (0, 0))) := Lib.hid (hx1.blk (by have := blk_new (w.alloc (.cells #[.int .i64 b0, .int .i64 b1, .int .i64 b2, .int .i64 b3, .int .i64 b4, .int .i64 b5, .int .i64 b6, .int .i64 b7, .int .i64 hd, .int .i64 nn] 38)) (.cells #[.int .i64 0, .int .i64 0, .int .i64 0, .int .i64 0, .int .i64 0, .int .i64 0, .int .i64 0, .int .i64 0, .int .i64 0, .int .i64 0] 38); rwa [World.size_alloc] at this))
      have p9 := blk_cell (hx1.blk (blk_alloc (blk_new w (.cells #[.int .i64 b0, .int .i64 b1, .int .i64 b2, .int .i64 b3, .int .i64 b4, .int .i64 b5, .int .i64 b6, .int .i64 b7, .int .i64 hd, .int .i64 nn] 38)) (.cells #[.int .i64 0, .int .i64 0, .int .i64 0, .int .i64 0, .int .i64 0, .int .i64 0, .int .i64 0, .int .i64 0, .int .i64 0, .int .i64 0] 38))) 9 (.int .i64 nn) rfl
      clear hx1
      obtain ⟨⟨z0, z1, z2, z3, z4⟩, z5, z6, z7, z8, z9⟩ := cells10 HZB.out
      obtain ⟨⟨y0, y1, y2, y3, y4⟩, y5, y6, y7, y8, y9⟩ := frozen10 HZB.out
      go_wp2
      have hzz := set10_at HZB.out (.int .i64 0) (.int .i64 0) (.int .i64 0) (.int .i64 0) (.int .i64 0) (.int .i64 0) (.int .i64 0) (.int .i64 0) (.int .i64 0) (.int .i64 0)
      clear z0 z1 z2 z3 z4 z5 z6 z7 z8 z9 y0 y1 y2 y3 y4 y5 y6 y7 y8 y9
      obtain ⟨⟨t0, t1, t2, t3, t4⟩, t5, t6, t7, t8, t9⟩ := cells10 hzz
      refine bodyPost_ret (v := .tuple #[.agg #[.int .i64 0, .int .i64 0, .int .i64 0, .int .i64 0, .int .i64 0, .int .i64 0, .int .i64 0, .int .i64 0, .int .i64 0, .int .i64 0], .bool false]) (by simp [results, Try.results68, go_sem, t0, t1, t2, t3, t4, t5, t6, t7, t8, t9]) rfl ⟨rfl, ?_⟩
      exact set10_ext HX.out (by omega) _ _ _ _ _ _ _ _ _ _
set_option maxRecDepth 100000 in
set_option maxHeartbeats 1000000 in
theorem rpush_ok (b0 b1 b2 b3 b4 b5 b6 b7 g : Int) (hd nn : Nat) (hhd : hd < 8) (hnn : nn < 8) (hm : Ri.may ⟨[b0, b1, b2, b3, b4, b5, b6, b7], hd, nn⟩ = true) (hg : 1 ≤ g) (c0 c1 c2 c3 c4 c5 c6 c7 : Int) (hc : ([b0, b1, b2, b3, b4, b5, b6, b7]).set ((hd + nn) % 8) g = [c0, c1, c2, c3, c4, c5, c6, c7]) (w : World) :
    Calls Try.prog 68 #[.agg #[.int .i64 b0, .int .i64 b1, .int .i64 b2, .int .i64 b3, .int .i64 b4, .int .i64 b5, .int .i64 b6, .int .i64 b7, .int .i64 (hd : Int), .int .i64 (nn : Int)], .int .i64 g] w fun e w' => e = .returned (.tuple #[.agg #[.int .i64 c0, .int .i64 c1, .int .i64 c2, .int .i64 c3, .int .i64 c4, .int .i64 c5, .int .i64 c6, .int .i64 c7, .int .i64 (hd : Int), .int .i64 ((nn : Int) + 1)], .bool true]) ∧ Ext w w' := by
  have HM := Lib.hid hm
  clear hm
  have e0 : ((nn : Int) == 8) = false := beq_eq_false_iff_ne.2 (by omega)
  go_enter Try.func68, Try.ntmps68
  go_wp2_with fail
  refine (rmay_eq b0 b1 b2 b3 b4 b5 b6 b7 hd nn _ HM.out _).mono ?_
  rintro r w1 ⟨rfl, hx1⟩
  have HX := Lib.hid ((((Ext.refl w).alloc (.cells #[.int .i64 b0, .int .i64 b1, .int .i64 b2, .int .i64 b3, .int .i64 b4, .int .i64 b5, .int .i64 b6, .int .i64 b7, .int .i64 (hd : Int), .int .i64 (nn : Int)] 38)).alloc (.cells #[.int .i64 0, .int .i64 0, .int .i64 0, .int .i64 0, .int .i64 0, .int .i64 0, .int .i64 0, .int .i64 0, .int .i64 0, .int .i64 0] 38)).trans hx1)
  have hb : w1.heap[w.heap.size]? = some (.cells (⟨[b0, b1, b2, b3, b4, b5, b6, b7], hd, nn⟩ : Ri).cells 38 (0, 0)) := hx1.blk (blk_alloc (blk_new w (.cells #[.int .i64 b0, .int .i64 b1, .int .i64 b2, .int .i64 b3, .int .i64 b4, .int .i64 b5, .int .i64 b6, .int .i64 b7, .int .i64 (hd : Int), .int .i64 (nn : Int)] 38)) (.cells #[.int .i64 0, .int .i64 0, .int .i64 0, .int .i64 0, .int .i64 0, .int .i64 0, .int .i64 0, .int .i64 0, .int .i64 0, .int .i64 0] 38))
  have HZ1 : Hid (w1.heap[w.heap.size + 1]? = some (.cells #[.int .i64 0, .int .i64 0, .int .i64 0, .int .i64 0, .int .i64 0, .int .i64 0, .int .i64 0, .int .i64 0, .int .i64 0, .int .i64 0] 38 (0, 0))) := Lib.hid (hx1.blk (by have := blk_new (w.alloc (.cells #[.int .i64 b0, .int .i64 b1, .int .i64 b2, .int .i64 b3, .int .i64 b4, .int .i64 b5, .int .i64 b6, .int .i64 b7, .int .i64 (hd : Int), .int .i64 (nn : Int)] 38)) (.cells #[.int .i64 0, .int .i64 0, .int .i64 0, .int .i64 0, .int .i64 0, .int .i64 0, .int .i64 0, .int .i64 0, .int .i64 0, .int .i64 0] 38); rwa [World.size_alloc] at this))
  have p8 := blk_cell hb 8 (.int .i64 (hd : Int)) rfl
  have p9 := blk_cell hb 9 (.int .i64 (nn : Int)) rfl
  have pj := blk_cell hb ((hd + nn) % 8) _ (Ri.cells_buf rfl _ (by omega))
  have yj := frozen_of_row _ _ ((hd + nn) % 8) _ _ hb
  have e1 : IntKind.i64.wrap ((hd : Int) + (nn : Int)) = ((hd + nn : Nat) : Int) := IntWalk.i64_in _ (by omega)
  have e2 : ((hd + nn : Nat) : Int).tmod 8 = (((hd + nn) % 8 : Nat) : Int) := by rw [Int.tmod_eq_emod_of_nonneg (by omega)]; omega
  have e3 : (0 : Int) ≤ (((hd + nn) % 8 : Nat) : Int) := by omega
  have e4 : (((hd + nn) % 8 : Nat) : Int) < 8 := by omega
  have e5 : IntKind.i64.wrap ((nn : Int) + 1) = (nn : Int) + 1 := IntWalk.i64_in _ (by omega)
  have HB2 : Hid ((w1.setCell ⟨w.heap.size, (hd + nn) % 8, none⟩ (.int .i64 g)).heap[w.heap.size]? = some (.cells #[.int .i64 c0, .int .i64 c1, .int .i64 c2, .int .i64 c3, .int .i64 c4, .int .i64 c5, .int .i64 c6, .int .i64 c7, .int .i64 (hd : Int), .int .i64 (nn : Int)] 38 (0, 0))) := Lib.hid (by
    have := blk_set hb ((hd + nn) % 8) (.int .i64 g)
    rw [Ri.cells_set rfl _ (by omega)] at this
    simp only [hc] at this
    exact this)
  have HZ2 : Hid ((w1.setCell ⟨w.heap.size, (hd + nn) % 8, none⟩ (.int .i64 g)).heap[w.heap.size + 1]? = some (.cells #[.int .i64 0, .int .i64 0, .int .i64 0, .int .i64 0, .int .i64 0, .int .i64 0, .int .i64 0, .int .i64 0, .int .i64 0, .int .i64 0] 38 (0, 0))) := Lib.hid (blk_set_other HZ1.out _ (by simp) _)
  have HX2 : Hid (Ext w (w1.setCell ⟨w.heap.size, (hd + nn) % 8, none⟩ (.int .i64 g))) := Lib.hid (HX.out.setCell (Nat.le_refl _) _)
  clear hx1 hb
  go_upto_region 4 with fail
  generalize hw2 : w1.setCell ⟨w.heap.size, (hd + nn) % 8, none⟩ (.int .i64 g) = w2 at *
  clear hw2 p8 p9 pj yj e1 e2 e3 e4 HX HZ1
  have q9 := blk_cell HB2.out 9 (.int .i64 (nn : Int)) rfl
  have x9 := frozen_of_row _ _ 9 _ _ HB2.out
  have HB3 : Hid ((w2.setCell ⟨w.heap.size, 9, none⟩ (.int .i64 ((nn : Int) + 1))).heap[w.heap.size]? = some (.cells #[.int .i64 c0, .int .i64 c1, .int .i64 c2, .int .i64 c3, .int .i64 c4, .int .i64 c5, .int .i64 c6, .int .i64 c7, .int .i64 (hd : Int), .int .i64 ((nn : Int) + 1)] 38 (0, 0))) := Lib.hid (blk_set HB2.out 9 (.int .i64 ((nn : Int) + 1)))
  have HZ3 : Hid ((w2.setCell ⟨w.heap.size, 9, none⟩ (.int .i64 ((nn : Int) + 1))).heap[w.heap.size + 1]? = some (.cells #[.int .i64 0, .int .i64 0, .int .i64 0, .int .i64 0, .int .i64 0, .int .i64 0, .int .i64 0, .int .i64 0, .int .i64 0, .int .i64 0] 38 (0, 0))) := Lib.hid (blk_set_other HZ2.out _ (by simp) _)
  have HX3 : Hid (Ext w (w2.setCell ⟨w.heap.size, 9, none⟩ (.int .i64 ((nn : Int) + 1)))) := Lib.hid (HX2.out.setCell (Nat.le_refl _) _)
  go_upto_region 5 with fail
  generalize hw3 : w2.setCell ⟨w.heap.size, 9, none⟩ (.int .i64 ((nn : Int) + 1)) = w3 at *
  clear hw3 q9 x9 HB2 HZ2 HX2 e5
  obtain ⟨⟨q0, q1, q2, q3, q4⟩, q5, q6, q7, q8, q9⟩ := cells10 HB3.out
  have HZB := HZ3
  obtain ⟨⟨z0, z1, z2, z3, z4⟩, z5, z6, z7, z8, z9⟩ := cells10 HZB.out
  obtain ⟨⟨y0, y1, y2, y3, y4⟩, y5, y6, y7, y8, y9⟩ := frozen10 HZB.out
  go_wp2
  have hzz := set10_at HZB.out (.int .i64 c0) (.int .i64 c1) (.int .i64 c2) (.int .i64 c3) (.int .i64 c4) (.int .i64 c5) (.int .i64 c6) (.int .i64 c7) (.int .i64 (hd : Int)) (.int .i64 ((nn : Int) + 1))
  clear z0 z1 z2 z3 z4 z5 z6 z7 z8 z9 y0 y1 y2 y3 y4 y5 y6 y7 y8 y9
  clear q0 q1 q2 q3 q4 q5 q6 q7 q8 q9
  obtain ⟨⟨t0, t1, t2, t3, t4⟩, t5, t6, t7, t8, t9⟩ := cells10 hzz
  refine bodyPost_ret (v := .tuple #[.agg #[.int .i64 c0, .int .i64 c1, .int .i64 c2, .int .i64 c3, .int .i64 c4, .int .i64 c5, .int .i64 c6, .int .i64 c7, .int .i64 (hd : Int), .int .i64 ((nn : Int) + 1)], .bool true]) (by simp [results, Try.results68, go_sem, t0, t1, t2, t3, t4, t5, t6, t7, t8, t9]) rfl ⟨rfl, ?_⟩
  exact set10_ext HX3.out (by omega) _ _ _ _ _ _ _ _ _ _
theorem rpush_k (b0 b1 b2 b3 b4 b5 b6 b7 hd nn g : Int) (c0 c1 c2 c3 c4 c5 c6 c7 hd' nn' : Int) (ok : Bool) (h : Ri.push ⟨[b0, b1, b2, b3, b4, b5, b6, b7], hd, nn⟩ g = (⟨[c0, c1, c2, c3, c4, c5, c6, c7], hd', nn'⟩, ok)) (w : World) :
    Calls Try.prog 68 #[.agg #[.int .i64 b0, .int .i64 b1, .int .i64 b2, .int .i64 b3, .int .i64 b4, .int .i64 b5, .int .i64 b6, .int .i64 b7, .int .i64 hd, .int .i64 nn], .int .i64 g] w fun e w' => e = .returned (.tuple #[.agg #[.int .i64 c0, .int .i64 c1, .int .i64 c2, .int .i64 c3, .int .i64 c4, .int .i64 c5, .int .i64 c6, .int .i64 c7, .int .i64 hd', .int .i64 nn'], .bool ok]) ∧ Ext w w' := by
  unfold Ri.push at h
  split at h
  · rename_i hc
    simp only [Bool.and_eq_true, decide_eq_true_eq] at hc
    obtain ⟨⟨hm, h8⟩, hg⟩ := hc
    have hi : Ri.inside ⟨[b0, b1, b2, b3, b4, b5, b6, b7], hd, nn⟩ = true := by unfold Ri.may at hm; rw [Bool.and_eq_true] at hm; exact hm.1
    obtain ⟨a, n, rfl, rfl, h1, h2⟩ := Ri.inside_nat hi
    simp only [Prod.mk.injEq, Ri.mk.injEq, Int.toNat_natCast] at h
    obtain ⟨⟨hs, rfl, rfl⟩, rfl⟩ := h
    exact rpush_ok b0 b1 b2 b3 b4 b5 b6 b7 g a n h1 (by omega) hm hg c0 c1 c2 c3 c4 c5 c6 c7 hs w
  · rename_i hc
    simp only [Prod.mk.injEq, Ri.zero, Ri.mk.injEq, List.cons.injEq, and_true] at h
    obtain ⟨⟨⟨rfl, rfl, rfl, rfl, rfl, rfl, rfl, rfl⟩, rfl, rfl⟩, rfl⟩ := h
    refine rpush_no b0 b1 b2 b3 b4 b5 b6 b7 hd nn g _ rfl ?_ w
    cases hm : Ri.may ⟨[b0, b1, b2, b3, b4, b5, b6, b7], hd, nn⟩ with
    | false => exact .inl rfl
    | true =>
      right
      refine ⟨rfl, ?_⟩
      rw [hm] at hc
      simp at hc
      by_cases h8 : nn = 8
      · exact .inl h8
      · exact .inr ⟨h8, by have := hc h8; omega⟩
end Go.Proofs.Ytogcfndhcphpaaa
