/-
  The statement SnapMany: its walk.
-/
import Derived.Test.YthkogcgdikgkaaaMp
import Derived.Test.YthkogcgdikgkaaaGd
set_option linter.unusedVariables false
set_option linter.unusedSimpArgs false
namespace Go.Proofs.Ythkogcgdikgkaaa
open Go.RowKit Go.Maps

theorem OwnRows.made1 {α : Type} {e : TypeId} {m : Nat} {f : α → List Value} {B : Nat} (w : World) (x : α) (hf : (f x).length = m) (hb : B ≤ w.heap.size) : OwnRows e m f (w.alloc (.cells (f x).toArray e)) B (.slice (some ⟨w.heap.size, 0, none⟩) 1 1) [x] :=
  ⟨by simp [hf], .inr ⟨w.heap.size, 1, (f x).toArray, rfl, hb, heap_alloc_new w _, Nat.le_refl _, by unfold maxLen; omega, by simp [hf], by simp [← hf]⟩⟩
/-- A G that waits, of that number. -/
def mnG (x : Int) : Gs4 := (x, 3, 0, 0)
def mnUp (fr : Int) (k : Nat) : List Gs4 := (List.range k).map fun (i : Nat) => mnG (fr + 2 * (i : Int))
theorem mnUp_next (fr : Int) (k : Nat) : mnUp fr (k + 1) = mnUp fr k ++ [mnG (fr + 2 * (k : Int))] := by unfold mnUp; rw [List.range_succ, List.map_append]; rfl
theorem mnUp_len (fr : Int) (k : Nat) : (mnUp fr k).length = k := by unfold mnUp; simp
theorem mnUp_rev (fr : Int) (k : Nat) : (mnUp fr (k + 1)).reverse = mnG (fr + 2 * (k : Int)) :: (mnUp fr k).reverse := by rw [mnUp_next, List.reverse_append]; rfl
theorem snGs_wait (h : Hold) : ∀ (l : List Int) (last : Int), (∀ x ∈ l, snNum x = true) → (last :: l).Pairwise (· < ·) → snGs (l.map mnG) last h = true
  | [], _, _, _ => rfl
  | x :: l, last, hx, hp => by
    have h0 : snNum 0 = true := by decide
    have h3 : snNum 3 = true := by decide
    have hlx : last < x := (List.pairwise_cons.1 hp).1 x (by simp)
    have hh : snHold (x, 3, 0, 0) h = (true, h) := by unfold snHold; simp
    rw [List.map_cons]
    unfold snGs mnG
    simp only [hx x (by simp), h0, h3, hh, hlx, Bool.and_true, decide_true, if_true]
    exact snGs_wait h l x (fun y hy => hx y (by simp [hy])) (List.pairwise_cons.1 hp).2
theorem mnUp_may (fr : Int) (k : Nat) (h1 : 1 ≤ fr) (h2 : fr ≤ 1000) (hk : k ≤ 90) : Sn.may ⟨0, [], mnUp fr k⟩ = true := by
  unfold Sn.may
  simp only [mnUp_len, List.length_nil]
  have h0 : snNum 0 = true := by decide
  have : snGs (mnUp fr k) 0 (fun _ => (0, 0)) = true := by
    have e : mnUp fr k = ((List.range k).map fun (i : Nat) => fr + 2 * (i : Int)).map mnG := by unfold mnUp; rw [List.map_map]; rfl
    rw [e]
    refine snGs_wait _ _ _ (fun x hx => ?_) ?_
    · obtain ⟨i, hi, rfl⟩ := List.mem_map.1 hx
      have := List.mem_range.1 hi
      exact (snNum_iff _).2 (by omega)
    · refine List.pairwise_cons.2 ⟨fun x hx => ?_, ?_⟩
      · obtain ⟨i, hi, rfl⟩ := List.mem_map.1 hx
        omega
      · rw [List.pairwise_map]
        exact List.pairwise_lt_range.imp fun h => by omega
  simp [h0, snPs, this]
  omega
theorem mnRev_may (fr : Int) (k : Nat) (h1 : 1 ≤ fr) (h2 : fr ≤ 1000) (hk : k ≤ 90) : Sn.may ⟨0, [], (mnUp fr k).reverse⟩ = decide (k < 2) := by
  match k, hk with
  | 0, _ => simp [mnUp, Sn.may, snPs, snGs]; decide
  | 1, _ => have := mnUp_may fr 1 h1 h2 (by omega); simpa [mnUp] using this
  | j + 2, hk =>
    have hs : snGs (mnUp fr (j + 2)).reverse 0 (fun _ => (0, 0)) = false := by
      rw [mnUp_rev, mnUp_rev]
      have hh : ∀ x h, snHold (x, 3, 0, 0) h = (true, h) := fun x h => by unfold snHold; simp
      unfold snGs mnG
      split
      · unfold snGs
        rw [if_neg]
        simp only [Bool.and_eq_true, decide_eq_true_eq]
        omega
      · rfl
    unfold Sn.may
    simp only [snPs, hs, Bool.and_false]
    simp
structure ManyI (w0 : World) (x y : Nat) (vs vt : Value) (l m : List Gs4) (wr : World) : Prop where
  bs : wr.heap[x]? = some (.cells #[.int .i64 0, .slice none 0 0, vs] 25 (0, 0))
  bt : wr.heap[y]? = some (.cells #[.int .i64 0, .slice none 0 0, vt] 25 (0, 0))
  os : OwnRows 36 4 snGCells wr (y + 1) vs l
  ot : OwnRows 36 4 snGCells wr (y + 1) vt m
  ap : Apart vs vt
  ext : Ext w0 wr
  o1 : w0.heap.size ≤ x
  o2 : x < y
theorem ManyI.putS {w0 wr w' : World} {x y : Nat} {vs vt u : Value} {l m l' : List Gs4} (h : ManyI w0 x y vs vt l m wr) (hg : wr.grownBy w' vs.ownBlock) (ho : OwnRows 36 4 snGCells w' (y + 1) u l') (hu : u.ownBlock = vs.ownBlock ∨ ∀ k, u.ownBlock = some k → wr.heap.size ≤ k) :
    ManyI w0 x y u vt l' m (w'.setCell ⟨x, 2, none⟩ u) := by
  have hlt : ∀ k, vs.ownBlock = some k → y < k := fun k hk => by have := (h.os.lt k hk).1; omega
  have keep : ∀ {b : Nat} {o : Obj}, b ≤ y → wr.heap[b]? = some o → w'.heap[b]? = some o := fun {b o} hb hh => (hg.block b (blk_lt hh) (fun he => by have := hlt b he.symm; omega)).trans hh
  have o1 := h.o1
  have o2 := h.o2
  refine ⟨blk_set (keep (by omega) h.bs) 2 u, blk_set_other (keep (Nat.le_refl _) h.bt) _ (by simp only; omega) _, ho.upd ((Upd.refl x w').set 2 u) (by omega), (h.ot.kept hg (Apart.symm' h.ap)).upd ((Upd.refl x w').set 2 u) (by omega), Apart.grows (w' := w') h.ap hu (fun k hk => (h.ot.lt k hk).2), ?_, o1, o2⟩
  exact Ext.setCell (Below.grown h.ext hg h.ext.size fun r hr => by have := hlt r hr; omega) (by simp only; omega) u
theorem ManyI.putT {w0 wr w' : World} {x y : Nat} {vs vt u : Value} {l m m' : List Gs4} {row : Option Nat} (h : ManyI w0 x y vs vt l m wr) (hg : wr.grownBy w' row) (hr : ∀ k, row = some k → wr.heap.size ≤ k) (ho : OwnRows 36 4 snGCells w' (y + 1) u m') (hu : ∀ k, u.ownBlock = some k → wr.heap.size ≤ k) :
    ManyI w0 x y vs u l m' (w'.setCell ⟨y, 2, none⟩ u) := by
  have keep : ∀ {b : Nat} {o : Obj}, wr.heap[b]? = some o → w'.heap[b]? = some o := fun {b o} hh => (hg.block b (blk_lt hh) (fun he => by have := hr b he.symm; have := blk_lt hh; omega)).trans hh
  have o1 := h.o1
  have o2 := h.o2
  have hk : OwnRows 36 4 snGCells w' (y + 1) vs l := h.os.kept hg (by
    cases hv : vs.ownBlock with
    | none => exact .inl rfl
    | some k => right; intro he; have h1 := (h.os.lt k hv).2; have h2 := hr k he.symm; omega)
  refine ⟨blk_set_other (keep h.bs) _ (by simp only; omega) _, blk_set (keep h.bt) 2 u, hk.upd ((Upd.refl y w').set 2 u) (by omega), ho.upd ((Upd.refl y w').set 2 u) (by omega), ?_, ?_, o1, o2⟩
  · unfold Apart
    cases hv : vs.ownBlock with
    | none => exact .inl rfl
    | some k => right; intro he; have h1 := (h.os.lt k hv).2; have h2 := hu k he.symm; omega
  · exact Ext.setCell (Below.grown h.ext hg h.ext.size fun r h' => by have := hr r h'; have := h.ext.size; omega) (by simp only; omega) u
def SnManyR (fr : Int) (n : Nat) (w0 : World) (x y : Nat) (kk : Value) (wr : World) : Prop := ∃ (k : Nat) (vs vt : Value), k ≤ n ∧ kk = .int .i64 k ∧ ManyI w0 x y vs vt (mnUp fr k) (mnUp fr k).reverse wr
set_option maxRecDepth 100000 in
set_option maxHeartbeats 1000000 in
theorem snmany_in (n : Nat) (fr : Int) (w : World) (hn : n ≤ 90) (h1 : 1 ≤ fr) (h2 : fr ≤ 1000) :
    Calls Try.prog 7 #[.int .i64 n, .int .i64 fr] w fun e w' => e = .returned (.bool true) ∧ Ext w w' := by
  obtain ⟨j0, J0', J1', J2', J3'⟩ := info_parts Try.infoGStat
  have J0 := Lib.hid J0'
  have J1 := Lib.hid J1'
  have J2 := Lib.hid J2'
  have J3 := Lib.hid J3'
  clear J0' J1' J2' J3'
  go_enter Try.func7, Try.ntmps7
  go_wp2_with fail
  refine (snfixed_yes _).mono ?_
  rintro r w1 ⟨rfl, hx1⟩
  have HM1 : Hid (ManyI w w1.heap.size (w1.heap.size + 1) (.slice none 0 0) (.slice none 0 0) (mnUp fr 0) (mnUp fr 0).reverse ((w1.alloc (.cells #[.int .i64 0, .slice none 0 0, .slice none 0 0] 25)).alloc (.cells #[.int .i64 0, .slice none 0 0, .slice none 0 0] 25))) := Lib.hid
    ⟨blk_alloc (blk_new w1 _) _, by have := blk_new (w1.alloc (.cells #[.int .i64 0, .slice none 0 0, .slice none 0 0] 25)) (.cells #[.int .i64 0, .slice none 0 0, .slice none 0 0] 25); rwa [World.size_alloc] at this, OwnRows.nil _ _, OwnRows.nil _ _, .inl rfl, (hx1.alloc _).alloc _, hx1.size, by omega⟩
  clear hx1
  go_wp2
  obtain ⟨x, hx⟩ : ∃ x, w1.heap.size = x := ⟨_, rfl⟩
  generalize hw2 : (w1.alloc (.cells #[.int .i64 0, .slice none 0 0, .slice none 0 0] 25)).alloc (.cells #[.int .i64 0, .slice none 0 0, .slice none 0 0] 25) = w2 at *
  rw [hx] at HM1 ⊢
  clear hw2 hx w1
  obtain ⟨y, hy⟩ : ∃ y, x + 1 = y := ⟨_, rfl⟩
  rw [hy] at HM1 ⊢
  clear hy
  go_loopw [7] (fun kk wr => SnManyR fr n w x y kk wr) (fun kk _ => n - (intOf kk).toNat)
  case atStart => exact ⟨0, _, _, by omega, rfl, HM1.out⟩
  case round =>
    clear HM1 w2
    obtain ⟨k, vs, vt, hk, rfl, hm⟩ := hrel
    have HM := Lib.hid hm
    have q0 := blk_cell hm.bs 0 _ rfl
    have q1 := blk_cell hm.bs 1 _ rfl
    have q2 := blk_cell hm.bs 2 _ rfl
    have p0 := blk_cell hm.bt 0 _ rfl
    have p1 := blk_cell hm.bt 1 _ rfl
    have p2 := blk_cell hm.bt 2 _ rfl
    by_cases hlt : k < n
    · have hul := mnUp_len fr k
      have hxy := hm.o2
      have hrw : RowsAt 4 snGCells (wr.alloc (.cells #[.int .i64 (fr + 2 * (k : Int)), .int .i64 3, .int .i64 0, .int .i64 0] 36)) (.slice (some ⟨wr.heap.size, 0, none⟩) [mnG (fr + 2 * (k : Int))].length 1) [mnG (fr + 2 * (k : Int))] := rows_one (f := snGCells) wr (mnG (fr + 2 * (k : Int))) 36 _ rfl
      have hm1 : ManyI w x y vs vt (mnUp fr k) (mnUp fr k).reverse (wr.alloc (.cells #[.int .i64 (fr + 2 * (k : Int)), .int .i64 3, .int .i64 0, .int .i64 0] 36)) := ⟨blk_alloc hm.bs _, blk_alloc hm.bt _, hm.os.alloc _, hm.ot.alloc _, hm.ap, hm.ext.alloc _, hm.o1, hm.o2⟩
      have hyl := blk_lt hm.bt
      obtain ⟨u, w3, hr3, ho3, hg3, hb3⟩ := OwnRows.append2 (P := Try.prog) 23 Try.underlying23 J0.out J1.out J2.out J3.out rfl (by decide) snGC_len snGC_one hm1.os hrw (show (mnUp fr k).length + 1 ≤ maxLen by unfold maxLen; omega) (show ((mnUp fr k).length + 1) * 32 ≤ 140737488355328 by omega) (by rw [World.size_alloc]; omega)
      rw [← mnUp_next] at ho3
      obtain ⟨A', n', c', rfl⟩ : ∃ A n c, u = .slice A n c := by obtain ⟨A, c, h, _⟩ := (ho3.rows snGC_len).form; exact ⟨_, _, _, h⟩
      have HM3 := Lib.hid (hm1.putS hg3 ho3 (hb3.imp_right fun h k hk => by rw [h] at hk; injection hk with hk; omega))
      have hrow : ∀ r, vs.ownBlock = some r → y < r := fun r hr => by have := (hm.os.lt r hr).1; omega
      have hbs3 := (hg3.block x (by rw [World.size_alloc]; omega) (fun he => by have := hrow x he.symm; omega)).trans hm1.bs
      have f3 : w3.frozen? ⟨x, 2, none⟩ = false := frozen_of_row _ _ _ _ _ hbs3
      have d3 : w3.cell? ⟨x, 2, none⟩ = some vs := blk_cell hbs3 2 vs rfl
      have HR3 := Lib.hid hr3
      have HREV := Lib.hid (mnUp_rev fr k)
      have HUL := Lib.hid hul
      clear p0 p1 p2 hrw hm1 hr3 ho3 hg3 hb3 hrow hbs3 hul
      go_upto_region 8 with (at_builtin; refine wpList_append_run rfl _ _ 23 rfl vs _ rfl rfl HR3.out ?_)
      generalize w3.setCell ⟨x, 2, none⟩ (.slice A' n' c') = w4 at *
      clear q0 q1 q2 f3 d3 HR3 HM w3
      have hm := HM3.out
      have hw4 := blk_lt hm.bt
      obtain ⟨T, tc, htv, htc, hTA⟩ := hm.ot.rows snGC_len
      have p2 := blk_cell (blk_alloc hm.bt (.cells #[.int .i64 (fr + 2 * (k : Int)), .int .i64 3, .int .i64 0, .int .i64 0] 36)) 2 _ rfl
      have hrT : RowsAt 4 snGCells (w4.alloc (.cells #[.int .i64 (fr + 2 * (k : Int)), .int .i64 3, .int .i64 0, .int .i64 0] 36)) (.slice T (mnUp fr k).reverse.length tc) (mnUp fr k).reverse := RowsAt.ext ⟨T, tc, rfl, htc, hTA⟩ ((Ext.refl w4).alloc _)
      have hmade : OwnRows 36 4 snGCells (w4.alloc (.cells #[.int .i64 (fr + 2 * (k : Int)), .int .i64 3, .int .i64 0, .int .i64 0] 36)) w4.heap.size (.slice (some ⟨w4.heap.size, 0, none⟩) 1 1) [mnG (fr + 2 * (k : Int))] := OwnRows.made1 w4 (mnG (fr + 2 * (k : Int))) rfl (Nat.le_refl _)
      obtain ⟨u, w5, hr5, ho5, hg5, hb5⟩ := OwnRows.append2 (P := Try.prog) 23 Try.underlying23 J0.out J1.out J2.out J3.out rfl (by decide) snGC_len snGC_one hmade hrT (show 1 + (mnUp fr k).reverse.length ≤ maxLen by unfold maxLen; have := HUL.out; rw [List.length_reverse]; omega) (show (1 + (mnUp fr k).reverse.length) * 32 ≤ 140737488355328 by have := HUL.out; rw [List.length_reverse]; omega) (by rw [World.size_alloc]; omega)
      have ho5' : OwnRows 36 4 snGCells w5 (y + 1) u (mnUp fr (k + 1)).reverse := by
        rw [HREV.out]
        rcases ho5.2 with ⟨e1, e2⟩ | ⟨g, cap, cur, e1, e2, e3⟩
        · exact ⟨ho5.1, .inl ⟨e1, e2⟩⟩
        · exact ⟨ho5.1, .inr ⟨g, cap, cur, e1, by omega, e3⟩⟩
      obtain ⟨A5, n5, c5, rfl⟩ : ∃ A n c, u = .slice A n c := by obtain ⟨A, c, h, _⟩ := (ho5.rows snGC_len).form; exact ⟨_, _, _, h⟩
      have hg5' : w4.grownBy w5 (some w4.heap.size) := by
        have h1 : w4.grownBy (w4.alloc (.cells #[.int .i64 (fr + 2 * (k : Int)), .int .i64 3, .int .i64 0, .int .i64 0] 36)) (some w4.heap.size) := Upd.ext ((Ext.refl w4).alloc _)
        exact Upd.trans h1 hg5
      have HM5 := Lib.hid (hm.putT hg5' (fun k hk => by injection hk with hk; omega) ho5' (fun k hk => (ho5.lt k hk).1))
      have hbt5 := (hg5'.block y (by omega) (by intro he; injection he; omega)).trans hm.bt
      have f5 : w5.frozen? ⟨y, 2, none⟩ = false := frozen_of_row _ _ _ _ _ hbt5
      have d5 : w5.cell? ⟨y, 2, none⟩ = some vt := blk_cell hbt5 2 vt rfl
      have HR5 := Lib.hid hr5
      clear hm hrT hmade hr5 ho5 hg5 hb5 ho5' hg5' hbt5 hTA HM3 HREV
      subst htv
      rw [List.length_reverse, HUL.out] at *
      go_wp2_with (at_builtin; refine wpList_append_run rfl _ _ 23 rfl _ _ rfl rfl HR5.out ?_)
      go_roundw
      case rel => exact ⟨k + 1, _, _, by omega, by go_num, HM5.out⟩
      case measure => simp [intOf]; omega
    · obtain rfl : k = n := by omega
      have hul := mnUp_len fr k
      have hmu := mnUp_may fr k h1 h2 hn
      have hmr := mnRev_may fr k h1 h2 hn
      have hur : (mnUp fr k).reverse.length = k := by rw [List.length_reverse, hul]
      clear HM
      generalize (mnUp fr k).reverse = M at *
      generalize mnUp fr k = L at *
      obtain ⟨A, c, rfl, hc, hA⟩ := hm.os.rows snGC_len
      obtain ⟨B, d, rfl, hd, hB⟩ := hm.ot.rows snGC_len
      have HS : Hid (SnAt wr (.agg #[.int .i64 0, .slice none 0 0, .slice A L.length c]) ⟨0, [], L⟩) := Lib.hid ⟨none, 0, A, c, rfl, RowsAt.nil _, A, c, rfl, hc, hA⟩
      have HT : Hid (SnAt wr (.agg #[.int .i64 0, .slice none 0 0, .slice B M.length d]) ⟨0, [], M⟩) := Lib.hid ⟨none, 0, B, d, rfl, RowsAt.nil _, B, d, rfl, hd, hB⟩
      have HMU := Lib.hid hmu
      have HMR := Lib.hid hmr
      have HBT := Lib.hid hm.bt
      have HXX := Lib.hid hm.ext
      have HUL := Lib.hid hul
      have HUR : Hid (M.length = k) := Lib.hid hur
      clear p0 p1 p2 hmu hmr hur hm hA hB hc hd hul
      go_wp2_with fail
      refine (snmay_k _ ⟨0, [], L⟩ true _ HMU.out HS.out (by simp) (by simp only [HUL.out]; omega)).mono ?_
      rintro r w5 ⟨rfl, hx5⟩
      clear q0 q1 q2
      have hbt := hx5.blk HBT.out
      have p0 := blk_cell hbt 0 _ rfl
      have p1 := blk_cell hbt 1 _ rfl
      have p2 := blk_cell hbt 2 _ rfl
      clear hbt
      have HX5 := Lib.hid (HXX.out.trans hx5)
      have HT5 := Lib.hid (HT.out.ext hx5)
      clear hx5
      go_wp2_with fail
      refine (snmay_k _ ⟨0, [], M⟩ (decide (k < 2)) _ HMR.out HT5.out (by simp) (by simp only [HUR.out]; omega)).mono ?_
      rintro r w6 ⟨rfl, hx6⟩
      have HX6 := Lib.hid (HX5.out.trans hx6)
      clear hx6 p0 p1 p2 HT5 HX5 HMU HMR
      by_cases h2k : k < 2
      · have e1 : decide (k < 2) = true := by simp [h2k]
        have e2 : decide ((k : Int) < 2) = true := by simp; omega
        rw [e1]
        go_wp2
        go_ret
        exact ⟨by simp, HX6.out⟩
      · have e1 : decide (k < 2) = false := by simp; omega
        have e2 : decide ((k : Int) < 2) = false := by simp; omega
        rw [e1]
        go_wp2
        go_ret
        exact ⟨by simp, HX6.out⟩
set_option maxRecDepth 100000 in
set_option maxHeartbeats 1000000 in
theorem snmany_out (n fr : Int) (w : World) (h : n < 0 ∨ (0 ≤ n ∧ 90 < n) ∨ (0 ≤ n ∧ n ≤ 90 ∧ fr < 1) ∨ (0 ≤ n ∧ n ≤ 90 ∧ 1 ≤ fr ∧ 1000 < fr)) :
    Calls Try.prog 7 #[.int .i64 n, .int .i64 fr] w fun e w' => e = .returned (.bool true) ∧ Ext w w' := by
  rcases h with h | ⟨h, h2⟩ | ⟨h, h2, h3⟩ | ⟨h, h2, h3, h4⟩
  · skip
    go_enter Try.func7, Try.ntmps7
    go_wp2_with fail
    refine (snfixed_yes _).mono ?_
    rintro r w1 ⟨rfl, hx1⟩
    go_wp2_with fail
    refine (snfixed_yes _).mono ?_
    rintro r w2 ⟨rfl, hx2⟩
    go_wp2
    go_ret
    exact ⟨rfl, hx1.trans hx2⟩
  · skip
    go_enter Try.func7, Try.ntmps7
    go_wp2_with fail
    refine (snfixed_yes _).mono ?_
    rintro r w1 ⟨rfl, hx1⟩
    go_wp2_with fail
    refine (snfixed_yes _).mono ?_
    rintro r w2 ⟨rfl, hx2⟩
    go_wp2
    go_ret
    exact ⟨rfl, hx1.trans hx2⟩
  · skip
    go_enter Try.func7, Try.ntmps7
    go_wp2_with fail
    refine (snfixed_yes _).mono ?_
    rintro r w1 ⟨rfl, hx1⟩
    go_wp2_with fail
    refine (snfixed_yes _).mono ?_
    rintro r w2 ⟨rfl, hx2⟩
    go_wp2
    go_ret
    exact ⟨rfl, hx1.trans hx2⟩
  · skip
    go_enter Try.func7, Try.ntmps7
    go_wp2_with fail
    refine (snfixed_yes _).mono ?_
    rintro r w1 ⟨rfl, hx1⟩
    go_wp2_with fail
    refine (snfixed_yes _).mono ?_
    rintro r w2 ⟨rfl, hx2⟩
    go_wp2
    go_ret
    exact ⟨rfl, hx1.trans hx2⟩
theorem walk_SnapMany (n fr : Int) (w : World) (_ : (Lit.int .i64 n).wf = true) (_ : (Lit.int .i64 fr).wf = true) :
    Calls Try.prog 7 #[.int .i64 n, .int .i64 fr] w fun e w' => e = .returned (.bool true) ∧ Ext w w' := by
  by_cases h : n < 0 ∨ (0 ≤ n ∧ 90 < n) ∨ (0 ≤ n ∧ n ≤ 90 ∧ fr < 1) ∨ (0 ≤ n ∧ n ≤ 90 ∧ 1 ≤ fr ∧ 1000 < fr)
  · exact snmany_out n fr w h
  · obtain ⟨k, rfl⟩ := Int.eq_ofNat_of_zero_le (show 0 ≤ n by omega)
    exact snmany_in k fr w (by omega) (by omega) (by omega)

end Go.Proofs.Ythkogcgdikgkaaa
