/-
  Several texts in one: Hv, Ht, Hw, Hx, Hy, Mf, Gf, Mi.
-/
import Derived.Test.YtohncgikdlbogaaDoorE04
import Derived.Lib.Overlaps
import Derived.Test.YtohncgikdlbogaaDoorE01
import Derived.Test.YtohncgikdlbogaaDoorE02
import Derived.ChangeKeysEq
set_option linter.unusedVariables false
set_option linter.unusedSimpArgs false
namespace Go.Proofs.YtohncgikdlbogaaDoor
open Go.RowKit
theorem run_copy_rows {P : Program} (w : World) (dT sT ty elem : TypeId) {i : TypeInfo} {m : Nat} (hu : P.underlying dT = some (.slice elem)) (hi : P.info? elem = some i) (hm : i.size = m) (b o dLen dCap : Nat) (a : Addr) (sLen sCap k : Nat) (hk : Nat.min sLen dLen = k) (cs : List Value) (hn : cs.length = k * m)
    (hsrc : ∀ j v, cs[j]? = some v → w.cell? (a.add j) = some v) (hth : w.there b o (k * m)) (h1 : ∀ v ∈ cs, v.oneCell' = true) :
    (Builtin.copy_ #[dT, sT] ty #[.slice (some ⟨b, o, none⟩) dLen dCap, .slice (some a) sLen sCap]).run P w = .ok (goInt k) (w.setCells b o cs) := by
 have hl := run_loadCells_list (P := P) w a cs hsrc
 have hst := run_storeCells_cells (P := P) b o cs 0 w (by rw [hn]; intro j hj; simpa using (hth j hj).1) (by rw [hn]; intro j hj; simpa using (hth j hj).2) h1
 rw [hn] at hl
 simp only [Nat.add_zero] at hst
 simp [Builtin.copy_, run_underlying hu, Builtin.lenOf, Builtin.firstCells, sizeOf, typeInfo, hi, hm, hk, hl, hst]
theorem OwnRows.over {α : Type} {e : TypeId} {m : Nat} {f : α → List Value} {w : World} {B g n c : Nat} {xs : List α} (hf : ∀ x, (f x).length = m) (h : OwnRows e m f w B (.slice (some ⟨g, 0, none⟩) n c) xs) {i : Nat} (hi : i ≤ xs.length) {ys : List α} (hc : i + ys.length ≤ c) :
    w.there g (i * m) (ys.length * m) ∧ OwnRows e m f (w.setCells g (i * m) (ys.flatMap f)) B (.slice (some ⟨g, 0, none⟩) (i + ys.length) c) (xs.take i ++ ys) ∧ Upd g w (w.setCells g (i * m) (ys.flatMap f)) := by
 have hmi : i * m ≤ xs.length * m := Nat.mul_le_mul_right _ hi
 have hl : (xs.take i).length = i := by rw [List.length_take]; omega
 rcases h.2 with ⟨e1, _⟩ | ⟨g', cap, cur, hv, hb, hg, hnc, hcm, hcs, htake⟩
 · cases e1
 · simp only [Value.slice.injEq, Option.some.injEq, Addr.mk.injEq, and_true] at hv
   obtain ⟨rfl, rfl, rfl⟩ := hv
   have hmc : (i + ys.length) * m ≤ c * m := Nat.mul_le_mul_right _ hc
   rw [Nat.add_mul] at hmc
   have hzl : (ys.flatMap f).length = ys.length * m := flatMap_len hf ys
   obtain ⟨cs', h1, h2, h3⟩ := setCells_mid (ys.flatMap f) w cur (i * m) hg (by rw [hzl, hcs]; omega)
   refine ⟨fun j hj => ⟨by rw [blk_cell hg _ _ (Array.getElem?_eq_getElem (by rw [hcs]; omega))]; rfl, frozen_of_row _ _ _ _ _ hg⟩, ⟨by rw [flatMap_len hf], .inr ⟨g, c, cs', by rw [List.length_append, hl], hb, h1, by rw [List.length_append, hl]; exact hc, hcm, h2.trans hcs, ?_⟩⟩, setCells_upd _ _ _ _⟩
   have hfst : cur.toList.take (i * m) = (xs.take i).flatMap f := by
    have e1 : xs.flatMap f = (xs.take i).flatMap f ++ (xs.drop i).flatMap f := by rw [← List.flatMap_append, List.take_append_drop]
    have e2 : cur.toList.take (i * m) = (cur.toList.take (xs.length * m)).take (i * m) := by rw [List.take_take, Nat.min_eq_left hmi]
    rw [e2, htake, e1, List.take_left' (by rw [flatMap_len hf, hl])]
   rw [List.flatMap_append, ← hfst, List.length_append, hl, Nat.add_mul]
   have hcl : (cur.toList.take (i * m)).length = i * m := by rw [List.length_take, Array.length_toList, hcs]; omega
   apply List.ext_getElem?
   intro t
   rw [List.getElem?_take, Array.getElem?_toList, h3 t]
   by_cases ht : t < i * m
   · rw [if_pos (by omega), if_neg (by omega), List.getElem?_append_left (by omega), List.getElem?_take, if_pos ht, Array.getElem?_toList]
   · rw [List.getElem?_append_right (by omega), hcl]
     by_cases ht2 : t < i * m + ys.length * m
     · rw [if_pos ht2, if_pos ⟨by omega, by rw [hzl]; omega⟩]
     · rw [if_neg ht2, List.getElem?_eq_none (by rw [hzl]; omega)]
theorem OwnRows.cells {α : Type} {e : TypeId} {m : Nat} {f : α → List Value} {w : World} {B g n c : Nat} {xs : List α} (h : OwnRows e m f w B (.slice (some ⟨g, 0, none⟩) n c) xs) {j : Nat} {u : Value} (hj : (xs.flatMap f)[j]? = some u) : w.cell? ⟨g, j, none⟩ = some u := by
 rcases h.2 with ⟨e1, _⟩ | ⟨g', cap, cur, hv, hb, hg, hnc, hcm, hcs, htake⟩
 · cases e1
 · simp only [Value.slice.injEq, Option.some.injEq, Addr.mk.injEq, and_true] at hv
   obtain ⟨rfl, rfl, rfl⟩ := hv
   refine blk_cell hg j u ?_
   rw [← htake, List.getElem?_take] at hj
   split at hj
   · rw [Array.getElem?_toList] at hj; exact hj
   · cases hj
theorem OwnRows.from {α : Type} {e : TypeId} {m : Nat} {f : α → List Value} {w : World} {B g n c : Nat} {xs : List α} (hf : ∀ x, (f x).length = m) (h : OwnRows e m f w B (.slice (some ⟨g, 0, none⟩) n c) xs) {i : Nat} (hi : i ≤ xs.length) {j : Nat} {u : Value} (hj : ((xs.drop i).flatMap f)[j]? = some u) : w.cell? ⟨g, i * m + j, none⟩ = some u := by
 refine h.cells ?_
 have e1 : xs.flatMap f = (xs.take i).flatMap f ++ (xs.drop i).flatMap f := by rw [← List.flatMap_append, List.take_append_drop]
 have hl : ((xs.take i).flatMap f).length = i * m := by rw [flatMap_len hf, List.length_take, Nat.min_eq_left hi]
 rw [e1, List.getElem?_append_right (by omega), hl, Nat.add_sub_cancel_left]
 exact hj
theorem OwnRows.room {α : Type} {P : Program} {e t tn : TypeId} {m : Nat} {f : α → List Value} {w : World} {B g n c : Nat} {xs : List α} (ty : TypeId) {bytes : Nat} {i : TypeInfo} {z : Value} {kq kn : IntKind} (ht : P.underlying t = some (.slice e)) (htn : P.underlying tn = some (.int kn)) (hi : P.info? e = some i) (hz : i.zero = some z) (hsize : i.size = m) (hby : i.bytes = bytes) (hzs : z.cells.size = m) (hsz : 0 < m) (hf : ∀ x, (f x).length = m)
    (h : OwnRows e m f w B (.slice (some ⟨g, 0, none⟩) n c) xs) {k : Nat} (h0 : 0 < k) (hg : c < n + k) (h63 : n + k ≤ maxLen) (hbytes : (n + k) * bytes ≤ 140737488355328) (hbase : B ≤ w.heap.size) :
    ∃ c' w', (Builtin.append_ #[t, tn] ty #[.slice (some ⟨g, 0, none⟩) n c, .int kq k]).run P w = .ok (.slice (some ⟨w.heap.size, 0, none⟩) (n + k) c') w' ∧ n + k ≤ c' ∧ OwnRows e m f w' B (.slice (some ⟨w.heap.size, 0, none⟩) n c') xs ∧ Ext w w' := by
 have hn : n = xs.length := by
  rcases h.2 with ⟨e1, _⟩ | ⟨g', cap, cur, hv, _⟩
  · cases e1
  · simp only [Value.slice.injEq] at hv; exact hv.2.1
 subst hsize
 subst hby
 have hl : (xs.flatMap f).length = n * i.size := by rw [flatMap_len hf, hn]
 have hold := run_firstCells_some (P := P) w.drew i.size n ⟨g, 0, none⟩ n c (xs.flatMap f) hl (fun j u hj => by
  have := h.cells hj
  unfold Addr.add
  by_cases hj0 : j = 0
  · subst hj0; simpa using this
  · rw [if_neg hj0]; simpa using this)
 have hk48 : k * i.bytes ≤ (n + k) * i.bytes := Nat.mul_le_mul_right _ (by omega)
 have hr := Go.Lib.run_append_grow_zeros (P := P) w t tn ty e i z kq kn ht htn hi hz (some ⟨g, 0, none⟩) n c (xs.flatMap f) hold k h0 hsz hg (by simp only [maxLen] at h63; omega) (by omega) (growslice_fits hg hbytes)
 have hge := grownCap_ge w (n + k) c e
 have hcm : grownCap w (n + k) c e ≤ maxLen := grownCap_le_maxLen w (n + k) c e h63
 refine ⟨_, _, hr, hge, ⟨by rw [flatMap_len hf], .inr ⟨w.heap.size, _, _, by rw [hn], hbase, heap_alloc_new w.drew _, by omega, hcm, ?_, ?_⟩⟩, (Ext.refl w).drew.alloc _⟩
 · simp only [Array.size_append, List.size_toArray, size_zeroCells, hzs, hl, ← Nat.add_mul]
   congr 1
   omega
 · simp only [Array.toList_append, List.append_assoc]
   rw [List.take_left' (by rw [hl, hn])]
theorem upd_ext (g : Nat) {w v : World} (h : Ext w v) : Upd g w v := ⟨h.os, h.tape, h.output, h.size, fun k hk _ => h.block k hk⟩
set_option maxRecDepth 100000 in
theorem del_app {B g c i n : Nat} {xs : List Gs4} (hn : xs.length = n + 1) (hi : i < n + 1) (hc : n + 1 ≤ c) :
    ∃ A c' m, (∀ v, (Instr.slice 23 (.slice (some ⟨g, 0, none⟩) (n + 1) c) (some (.int .i64 ((i : Int) + 1))) none none).run Tryd.prog v = .ok (.slice A m c') v) ∧
     ∀ v, OwnRows 49 4 snGCells v B (.slice (some ⟨g, 0, none⟩) (n + 1) c) xs → ∃ v', (Builtin.append_ #[23, 23] 23 #[.slice (some ⟨g, 0, none⟩) i c, .slice A m c']).run Tryd.prog v = .ok (.slice (some ⟨g, 0, none⟩) n c) v' ∧ OwnRows 49 4 snGCells v' B (.slice (some ⟨g, 0, none⟩) n c) (xs.eraseIdx i) ∧ Upd g v v' := by
 obtain ⟨i0, I0, I1, I2, I3⟩ := info_parts Tryd.infoGS
 have he : (xs.eraseIdx i) = xs.take i ++ xs.drop (i + 1) := List.eraseIdx_eq_take_drop_succ xs i
 have hel : (xs.eraseIdx i).length = n := by rw [List.length_eraseIdx, if_pos (by omega)]; omega
 by_cases h : i + 1 < n + 1
 · refine ⟨_, _, _, fun v => cutG_from g (n + 1) c i h hc v, fun v ho => ?_⟩
   have hf := own_first snGCells_len ho (i := i) (by omega)
   have hrows := OwnRows.rows snGCells_len ho
   have htl : (xs.take i).length = i := by rw [List.length_take]; omega
   have hown := hf
   unfold OwnRows at hown
   rw [htl] at hown
   obtain ⟨v', hr, ho', hg⟩ := run_append_fits (P := Tryd.prog) v B 23 23 49 i0 4 Tryd.underlying23 I0 I2 g i c ((xs.take i).flatMap snGCells) hown ⟨g, (i + 1) * 4, none⟩ (n + 1 - (i + 1)) (c - (i + 1)) ((xs.drop (i + 1)).flatMap snGCells)
    (by rw [flatMap_len snGCells_len, List.length_drop, hn]) (fun j u hu => by
     have hj : j < ((xs.drop (i + 1)).flatMap snGCells).length := (List.getElem?_eq_some_iff.1 hu).1
     rw [flatMap_len snGCells_len, List.length_drop, hn] at hj
     have hq : j / 4 < n + 1 - (i + 1) := Nat.div_lt_of_lt_mul (by omega)
     obtain ⟨x, hx⟩ : ∃ x, xs[i + 1 + j / 4]? = some x := ⟨_, List.getElem?_eq_getElem (by omega)⟩
     have hx2 : (xs.drop (i + 1))[j / 4]? = some x := by rw [List.getElem?_drop]; exact hx
     have h4 : j % 4 < 4 := Nat.mod_lt _ (by omega)
     have h5 := flatMap_get snGCells_len (xs.drop (i + 1)) (j / 4) x hx2 (j % 4) _ (List.getElem?_eq_getElem (by rw [snGCells_len]; exact h4))
     rw [show j / 4 * 4 + j % 4 = j by omega, hu] at h5
     obtain ⟨b, o, hA, hb, hcell⟩ := hrows.get hx
     simp only [Option.some.injEq, Addr.mk.injEq, and_true] at hA
     obtain ⟨rfl, rfl⟩ := hA
     have h6 := hcell (j % 4) u (by rw [List.getElem?_eq_getElem (by rw [snGCells_len]; exact h4)]; exact h5.symm)
     have ea : 0 + (i + 1 + j / 4) * 4 + j % 4 = (i + 1) * 4 + j := by have := Nat.div_add_mod j 4; omega
     rw [ea] at h6
     unfold Addr.add
     by_cases hj0 : j = 0
     · subst hj0
       simpa using h6
     · rw [if_neg hj0]
       exact h6) (fun u hu => by
     obtain ⟨x, _, hx⟩ := List.mem_flatMap.1 hu
     exact snGCells_one x u hx) (by omega)
   rw [show i + (n + 1 - (i + 1)) = n by omega] at hr ho'
   refine ⟨v', hr, ?_, hg⟩
   unfold OwnRows
   rw [hel, he, List.flatMap_append]
   exact ho'
 · obtain rfl : i = n := by omega
   obtain ⟨A, c', hA⟩ := cutG_end g i c hc default
   refine ⟨A, c', 0, hA, fun v ho => ?_⟩
   have hs : Go.Src Tryd.prog i0.size 23 (.slice A 0 c') 0 [] v := by
    cases A with
    | none => exact Go.Src.ofNil v Tryd.underlying23 c'
    | some a => exact Go.Src.ofSlice v Tryd.underlying23 a 0 c' [] (by simp) (by simp) (by simp)
   refine ⟨v, Go.run_append_nothing v 23 23 23 49 i0 Tryd.underlying23 I0 (some ⟨g, 0, none⟩) i c (by omega) _ hs, ?_, Upd.refl _ _⟩
   have hf := own_first snGCells_len ho (i := i) (by omega)
   rw [he, List.drop_eq_nil_of_le (by omega), List.append_nil]
   exact hf
set_option maxRecDepth 100000 in
set_option maxHeartbeats 8000000 in
theorem mdel_any (g n c i B : Nat) (xs : List Gs4) (w : World) (ho : OwnRows 49 4 snGCells w B (.slice (some ⟨g, 0, none⟩) (n + 1) c) xs) (hn : xs.length = n + 1) (hi : i < n + 1) (hc : n + 1 ≤ c) (hl : n + 1 ≤ 10000) :
    Calls Tryd.prog 70 #[.slice (some ⟨g, 0, none⟩) (n + 1) c, .int .i64 i, .int .i64 ((i : Int) + 1)] w fun e w' => e = .returned (.slice (some ⟨g, 0, none⟩) n c) ∧ OwnRows 49 4 snGCells w' B (.slice (some ⟨g, 0, none⟩) n c) (xs.eraseIdx i) ∧ Upd g w w' := by
 obtain ⟨A, c', m, hcut, happ⟩ := del_app (B := B) (g := g) hn hi hc
 have hel : (xs.eraseIdx i).length = n := by rw [List.length_eraseIdx, if_pos (by omega)]; omega
 obtain ⟨u0, -⟩ := cutG_all (some ⟨g, 0, none⟩) (n + 1) c i (by omega) hc w
 have hall : ∀ v, ∃ u, (Instr.slice 23 (.slice (some ⟨g, 0, none⟩) (n + 1) c) (some (.int .i64 i)) (some (.int .i64 ((i : Int) + 1))) (some (.int .i64 ((n : Int) + 1)))).run Tryd.prog v = .ok u v := fun v => cutG_all (some ⟨g, 0, none⟩) (n + 1) c i (by omega) hc v
 have hcto : ∀ v, (Instr.slice 23 (.slice (some ⟨g, 0, none⟩) (n + 1) c) none (some (.int .i64 i)) none).run Tryd.prog v = .ok (.slice (some ⟨g, 0, none⟩) i c) v := fun v => cutG_to _ _ _ _ (by omega) v
 have hone := cutG_one g n c hc
 have hne : ((i : Int) == (i : Int) + 1) = false := by simp; omega
 have HO := Lib.hid ho
 have HAPP := Lib.hid happ
 have HEL := Lib.hid hel
 have HN : Hid (n + 1 ≤ c ∧ i < n + 1 ∧ n + 1 ≤ 10000) := Lib.hid ⟨hc, hi, hl⟩
 obtain ⟨ua, hua⟩ := hall w
 have l1 : (n : Int) < 100000 := by omega
 clear ho hn hi hc hl happ hel hall
 go_enter Tryd.func70, Tryd.ntmps70
 go_upto_region 5 with fail
 clear hua hne
 refine region_gq 99 (fun _ => True) (fun v => Ext w v) (by kernel_rfl) (Ext.refl w).drew (fun _ _ d _ _ h => by cases d <;> exact h) ?_
 intro Q9 HQE HQP
 have HG : ∀ (l : Array Bool) v, Ext w v → l.getD 99 false = false → True := fun _ _ _ _ => trivial
 refine g_tk 0 (v := ?_) HG HQP (fun w hS => ?_) ?_
 rotate_left 1
 · go_simp; refine gives_mk ?_ rfl; with_reducible rfl
 refine g_tk 1 (v := ?_) HG HQP (fun w hS => ?_) ?_
 rotate_left 1
 · go_simp; refine gives_mk ?_ rfl; with_reducible rfl
 refine g_tk 2 (v := ?_) HG HQP (fun w hS => ?_) ?_
 rotate_left 1
 · go_simp; refine gives_mk ?_ rfl; with_reducible rfl
 refine g_tk 3 (v := ?_) HG HQP (fun w hS => ?_) ?_
 rotate_left 1
 · go_simp; refine gives_mk ?_ rfl; with_reducible rfl
 refine g_tk 4 (v := ?_) HG HQP (fun w hS => ?_) ?_
 rotate_left 1
 · go_simp; refine gives_mk ?_ rfl; with_reducible rfl
 refine g_tk 5 (v := ?_) HG HQP (fun w hS => ?_) ?_
 rotate_left 1
 · go_simp; refine gives_mk ?_ rfl; with_reducible rfl
 clear HG
 refine g_mid (fun u v => u = .slice (some ⟨g, 0, none⟩) n c ∧ OwnRows 49 4 snGCells v B (.slice (some ⟨g, 0, none⟩) n c) (xs.eraseIdx i) ∧ Upd g w v) (k := 6) (by kernel_rfl) (fun _ _ _ _ => trivial) rfl (by kernel_rfl) (fun v hS R hR => ?_) (fun u hu => ?_)
 · obtain ⟨v', hr, ho', hu'⟩ := HAPP.out v (HO.out.ext hS)
   refine givesM_append _ _ 23 rfl _ _ (by go_simp) (by go_simp) hr ?_
   exact hR _ _ ⟨rfl, ho', Upd.trans (upd_ext g hS) hu'⟩
 obtain ⟨_, rfl, -⟩ := hu
 have HG : ∀ (l : Array Bool) v, (Value.slice (some ⟨g, 0, none⟩) n c = Value.slice (some ⟨g, 0, none⟩) n c ∧ OwnRows 49 4 snGCells v B (.slice (some ⟨g, 0, none⟩) n c) (xs.eraseIdx i) ∧ Upd g w v) → l.getD 99 false = false → True := fun _ _ _ _ => trivial
 refine g_tk 7 (v := ?_) HG HQP (fun w hS => ?_) ?_
 rotate_left 1
 · go_simp; refine gives_mk ?_ rfl; with_reducible rfl
 refine g_done (by kernel_rfl) (fun v hT => ?_) _
 have hq9 := HQE.out
 subst hq9
 clear HG HQE HQP
 obtain ⟨-, ho5, hu5⟩ := hT
 have hbh := own_behind (k := 1) snGCells_len ho5 (by rfl : (List.replicate 4 (Value.int .i64 0)).length = 1 * 4) (by rw [HEL.out]; exact HN.out.1)
 rw [HEL.out] at hbh
 obtain ⟨zs, hzl, hclr⟩ := run_clear_rows (P := Tryd.prog) v 23 49 (.agg #[.int .i64 0, .int .i64 0, .int .i64 0, .int .i64 0]) 4 Tryd.underlying23 (fun _ => by kernel_rfl) (by kernel_rfl) (by simp [Value.cells, Value.oneCell']) g (n * 4) 1 (c - n) (by omega) hbh.1
 have hbz := own_behind (k := 1) snGCells_len ho5 hzl (by rw [HEL.out]; exact HN.out.1)
 rw [HEL.out] at hbz
 have HO6 := Lib.hid hbz.2.1
 have HU6 := Lib.hid (Upd.trans hu5 hbz.2.2)
 clear hbh hbz hzl ho5 hu5
 go_simp
 go_wp2
 go_ret
 exact ⟨rfl, HO6.out, HU6.out⟩
theorem givesM_copy {P : Program} {R : Value → World → Prop} {ρ : Operand → Value} {o : Oper} {w : World} (d s : Operand) (t t' : TypeId) (ho : o.op = .call { callee := .builtin .copy, args := #[d, s], argTypes := #[t, t'] }) (v u : Value) (hd : ρ d = v) (hs : ρ s = u) {v' : Value} {w' : World}
    (hr : (Builtin.copy_ #[t, t'] o.type #[v, u]).run P w = .ok v' w') (h : R v' w') : GivesM P R ((execOp ρ o).run P w) := by
 unfold execOp
 simp only [ho, resolve, invoke, builtin, Sem.run_bind, Sem.run_pure, Result.andThen_ok, List.map_toArray, List.map_cons, List.map_nil, hd, hs, hr]
 exact ⟨h⟩
theorem cutG_tail (A : Option Addr) (n c k : Nat) (h1 : k ≤ n) (h2 : n ≤ c) (v0 : World) : ∃ u, ∀ v, (Instr.slice 23 (.slice A n c) (some (.int .i64 k)) none none).run Tryd.prog v = .ok u v := by
 have hk : (k : Int) ≤ (n : Int) := by omega
 refine ⟨.slice (if c = k then A else A.map (·.add (k * 4))) (n - k) (c - k), fun v => ?_⟩
 simp [Instr.slice, run_underlying Tryd.underlying23, Instr.sliceBounds, Instr.sliceBound, asIntOf, hk, gsize_run]
 try (rw [if_pos (by omega)])
 try (intro hh; omega)
theorem cutG_k (g n c k : Nat) (h1 : k < c) (h2 : k ≤ n) (h3 : n ≤ c) (v : World) : (Instr.slice 23 (.slice (some ⟨g, 0, none⟩) n c) (some (.int .i64 k)) none none).run Tryd.prog v = .ok (.slice (some ⟨g, k * 4, none⟩) (n - k) (c - k)) v := by
 have hk : (k : Int) ≤ (n : Int) := by omega
 have hne : ¬ c = k := by omega
 simp [Instr.slice, run_underlying Tryd.underlying23, Instr.sliceBounds, Instr.sliceBound, asIntOf, hk, gsize_run, hne]
 try (rw [if_pos (by omega)])
 simp [Addr.add]
 try omega
theorem cutG_k1 (g n c k : Nat) (h1 : k + 1 < c) (h2 : k + 1 ≤ n) (h3 : n ≤ c) (v : World) : (Instr.slice 23 (.slice (some ⟨g, 0, none⟩) n c) (some (.int .i64 ((k : Int) + 1))) none none).run Tryd.prog v = .ok (.slice (some ⟨g, (k + 1) * 4, none⟩) (n - (k + 1)) (c - (k + 1))) v := by
 have := cutG_k g n c (k + 1) h1 h2 h3 v
 rw [show ((k + 1 : Nat) : Int) = (k : Int) + 1 by omega] at this
 exact this
theorem ins_over {w w' : World} (B g a b : Nat) (c : Nat) (n : Nat) {xs ys : List Gs4} {i : Nat} (ho : OwnRows 49 4 snGCells w B (.slice (some ⟨g, 0, none⟩) n c) xs) (hi : i ≤ xs.length) (hc : i + ys.length ≤ c) (ad : Addr) (sl sc dl dc : Nat) (hk : Nat.min sl dl = ys.length) (hsrc : ∀ j v, (ys.flatMap snGCells)[j]? = some v → w.cell? (ad.add j) = some v) :
    ∃ v, (Builtin.copy_ #[23, 23] 3 #[.slice (some ⟨g, i * 4, none⟩) dl dc, .slice (some ad) sl sc]).run Tryd.prog w = .ok (goInt ys.length) v ∧ OwnRows 49 4 snGCells v B (.slice (some ⟨g, 0, none⟩) (i + ys.length) c) (xs.take i ++ ys) ∧ Upd g w v := by
 obtain ⟨i0, I0, I1, I2, I3⟩ := info_parts Tryd.infoGS
 obtain ⟨hth, ho', hu⟩ := OwnRows.over snGCells_len ho hi (ys := ys) hc
 exact ⟨_, run_copy_rows (P := Tryd.prog) w 23 23 3 49 Tryd.underlying23 I0 I2 g (i * 4) dl dc ad sl sc ys.length hk (ys.flatMap snGCells) (flatMap_len snGCells_len ys) hsrc hth (fun u hu => by
  obtain ⟨x, _, hx⟩ := List.mem_flatMap.1 hu
  exact snGCells_one x u hx), ho', hu⟩
theorem ins_laps {w : World} {B g V n c i : Nat} {xs : List Gs4} {y : Gs4} (ho : OwnRows 49 4 snGCells w B (.slice (some ⟨g, 0, none⟩) n c) xs) (hc : 0 < c) (hV : w.heap[V]? = some (.cells (snGCells y).toArray 49 (0, 0))) (hne : V ≠ g) (lb cb : Nat) :
    (callFunc 97 #[.slice (some ⟨V, 0, none⟩) 1 1, .slice (some ⟨g, i, none⟩) lb cb]).run Tryd.prog w = .ok (.value (.bool false)) w := by
 rcases ho.2 with ⟨e1, _⟩ | ⟨g', cap, cur, hv, hb, hg, hnc, hcm, hcs, htake⟩
 · cases e1
 · simp only [Value.slice.injEq, Option.some.injEq, Addr.mk.injEq, and_true] at hv
   obtain ⟨rfl, rfl, rfl⟩ := hv
   rw [run_callFunc_extern (P := Tryd.prog) Tryd.func97 (by kernel_rfl) (by kernel_rfl) (by kernel_rfl) (e := Extern.SlicesOverlaps.overlaps #[23, 23] #[4]) (by kernel_rfl),
    Go.Lib.run_overlaps_apart w 23 4 49 Tryd.underlying23 4 (fun w => gsize_run w) ⟨V, 0, none⟩ ⟨g, i, none⟩ 1 1 lb cb hne 49 49 4 cur.size (by unfold World.shape?; rw [hV]; rfl) (by unfold World.shape?; rw [hg]) (by omega) (frozen_of_row _ _ _ _ _ hV) (frozen_of_row _ _ _ _ _ hV)]
   rfl
theorem rows_blk {α : Type} {m : Nat} {f : α → List Value} {w : World} {V : Nat} {T : TypeId} {y : α} (h : w.heap[V]? = some (.cells (f y).toArray T (0, 0))) : RowsAt m f w (.slice (some ⟨V, 0, none⟩) 1 1) [y] := by
 refine ⟨_, 1, rfl, by simp, fun _ => ⟨V, 0, rfl, blk_lt h, fun j x hj i u hu => ?_⟩⟩
 match j, hj with
 | 0, hj =>
  simp only [List.getElem?_cons_zero, Option.some.injEq] at hj
  subst hj
  rw [show 0 + 0 * m + i = i by omega]
  exact blk_cell h i u (by rw [List.getElem?_toArray]; exact hu)
theorem ins_src {w : World} {V : Nat} {y : Gs4} (h : w.heap[V]? = some (.cells (snGCells y).toArray 49 (0, 0))) : ∀ j v, ([y].flatMap snGCells)[j]? = some v → w.cell? ((⟨V, 0, none⟩ : Addr).add j) = some v := fun j v hj => by
 rw [Addr.add_lit, Nat.zero_add]
 refine blk_cell h j v ?_
 rw [List.getElem?_toArray]
 simpa using hj
theorem ins_a {w : World} {B g n c i : Nat} {xs : List Gs4} (ho : OwnRows 49 4 snGCells w B (.slice (some ⟨g, 0, none⟩) n c) xs) (hn : xs.length = n) (hi : i < n) (hc : n + 1 ≤ c) :
    ∃ v, (Builtin.copy_ #[23, 23] 3 #[.slice (some ⟨g, (i + 1) * 4, none⟩) (n - i) (c - (i + 1)), .slice (some ⟨g, i * 4, none⟩) (n + 1 - i) (c - i)]).run Tryd.prog w = .ok (goInt (xs.drop i).length) v ∧ OwnRows 49 4 snGCells v B (.slice (some ⟨g, 0, none⟩) (n + 1) c) (xs.take (i + 1) ++ xs.drop i) ∧ Upd g w v := by
 have hd : (xs.drop i).length = n - i := by rw [List.length_drop, hn]
 have h := ins_over (w := w) (w' := w) B g 0 0 c n ho (i := i + 1) (ys := xs.drop i) (by omega) (by omega) ⟨g, i * 4, none⟩ (n + 1 - i) (c - i) (n - i) (c - (i + 1)) (by rw [hd]; exact Nat.min_eq_right (by omega)) (fun j v hj => by rw [Addr.add_lit]; exact OwnRows.from snGCells_len ho (by omega) hj)
 have e : i + 1 + (xs.drop i).length = n + 1 := by omega
 rwa [e] at h
theorem ins_b {w : World} {B g n c i V : Nat} {zs : List Gs4} {y : Gs4} (ho : OwnRows 49 4 snGCells w B (.slice (some ⟨g, 0, none⟩) (n + 1) c) zs) (hn : zs.length = n + 1) (hi : i < n) (hV : w.heap[V]? = some (.cells (snGCells y).toArray 49 (0, 0))) :
    ∃ v, (Builtin.copy_ #[23, 23] 3 #[.slice (some ⟨g, i * 4, none⟩) (n + 1 - i) (c - i), .slice (some ⟨V, 0, none⟩) 1 1]).run Tryd.prog w = .ok (goInt 1) v ∧ OwnRows 49 4 snGCells v B (.slice (some ⟨g, 0, none⟩) (n + 1) c) (zs.set i y) ∧ Upd g w v := by
 obtain ⟨i0, I0, I1, I2, I3⟩ := info_parts Tryd.infoGS
 obtain ⟨z, hz⟩ : ∃ z, zs[i]? = some z := ⟨_, List.getElem?_eq_getElem (by omega)⟩
 obtain ⟨g', c', hv, -, -, -, hth, ho', hu⟩ := OwnRows.setCells snGCells_len ho hz (x' := y) (j := 0) (ds := snGCells y) (by rw [snGCells_len]; omega) (fun t ht => by rw [if_pos ⟨by omega, by rw [snGCells_len]; omega⟩, Nat.sub_zero])
 simp only [Value.slice.injEq, Option.some.injEq, Addr.mk.injEq, and_true] at hv
 obtain ⟨rfl, -, rfl⟩ := hv
 rw [Nat.add_zero] at hth ho' hu
 refine ⟨_, run_copy_rows (P := Tryd.prog) w 23 23 3 49 Tryd.underlying23 I0 I2 g (i * 4) (n + 1 - i) (c - i) ⟨V, 0, none⟩ 1 1 1 (Nat.min_eq_left (by omega)) (snGCells y) (snGCells_len y) (fun j v hj => ins_src hV j v (by simpa using hj)) (by rw [snGCells_len] at hth; exact hth) (fun u hu => snGCells_one y u hu), ho', hu⟩
theorem ins_set {xs : List Gs4} {i : Nat} (y : Gs4) (hi : i < xs.length) : (xs.take (i + 1) ++ xs.drop i).set i y = xs.take i ++ y :: xs.drop i := by
 have hl : (xs.take i).length = i := by rw [List.length_take]; omega
 rw [List.take_succ_eq_append_getElem hi, List.append_assoc, List.set_append_right _ _ (by omega), hl, Nat.sub_self]
 rfl
theorem ins_c {w : World} {B g n c i V : Nat} {xs : List Gs4} {y : Gs4} (ho : OwnRows 49 4 snGCells w B (.slice (some ⟨g, 0, none⟩) n c) xs) (hn : xs.length = n) (hi : i < n) (hc : c < n + 1) (hnc : n ≤ c) (hl : n ≤ 10000) (hB : B ≤ w.heap.size) (hV : w.heap[V]? = some (.cells (snGCells y).toArray 49 (0, 0))) :
    ∃ c' w2 w3, (Builtin.append_ #[23, 3] 23 #[.slice (some ⟨g, 0, none⟩) i c, .int .i64 ((n : Int) + 1 - (i : Int))]).run Tryd.prog w = .ok (.slice (some ⟨w.heap.size, 0, none⟩) (n + 1) c') w2 ∧ n + 1 ≤ c' ∧
     (Builtin.copy_ #[23, 23] 3 #[.slice (some ⟨w.heap.size, i * 4, none⟩) (n + 1 - i) (c' - i), .slice (some ⟨V, 0, none⟩) 1 1]).run Tryd.prog w2 = .ok (goInt 1) w3 ∧ Ext w w3 ∧
     ∀ v, Ext w3 v → ∃ v2, (Builtin.copy_ #[23, 23] 3 #[.slice (some ⟨w.heap.size, (i + 1) * 4, none⟩) (n - i) (c' - (i + 1)), .slice (some ⟨g, i * 4, none⟩) (n - i) (c - i)]).run Tryd.prog v = .ok (goInt (xs.drop i).length) v2 ∧ OwnRows 49 4 snGCells v2 B (.slice (some ⟨w.heap.size, 0, none⟩) (n + 1) c') (xs.take i ++ y :: xs.drop i) ∧ Ext w v2 := by
 obtain ⟨i0, I0, I1, I2, I3⟩ := info_parts Tryd.infoGS
 have htl : (xs.take i).length = i := by rw [List.length_take]; omega
 have hd : (xs.drop i).length = n - i := by rw [List.length_drop, hn]
 have hf := own_first snGCells_len ho (i := i) (by omega)
 obtain ⟨c', w2, hr, hc', ho2, hx2⟩ := OwnRows.room (P := Tryd.prog) (tn := 3) (kq := .i64) (kn := .i64) 23 Tryd.underlying23 Tryd.underlying3 I0 I1 I2 I3 rfl (by decide) snGCells_len hf (k := n + 1 - i) (by omega) (by omega) (by simp [maxLen]; omega) (by omega) hB
 rw [show i + (n + 1 - i) = n + 1 by omega, show ((n + 1 - i : Nat) : Int) = (n : Int) + 1 - (i : Int) by omega] at hr
 rw [show i + (n + 1 - i) = n + 1 by omega] at hc'
 obtain ⟨w3, hr3, ho3, hu3⟩ := ins_over (w := w2) (w' := w2) B w.heap.size 0 0 c' i ho2 (i := i) (ys := [y]) (by omega) (by simp; omega) ⟨V, 0, none⟩ 1 1 (n + 1 - i) (c' - i) (by simp only [List.length_singleton]; exact Nat.min_eq_left (by omega)) (ins_src (hx2.blk hV))
 rw [List.take_of_length_le (by omega : (xs.take i).length ≤ i)] at ho3
 have hx3 : Ext w w3 := Ext.upd hx2 hu3 (Nat.le_refl _)
 refine ⟨c', w2, w3, hr, hc', hr3, hx3, fun v hv => ?_⟩
 obtain ⟨v2, hr4, ho4, hu4⟩ := ins_over (w := v) (w' := v) B w.heap.size 0 0 c' _ (ho3.ext hv) (i := i + 1) (ys := xs.drop i) (by simp; omega) (by omega) ⟨g, i * 4, none⟩ (n - i) (c - i) (n - i) (c' - (i + 1)) (by rw [hd]; exact Nat.min_self _) (fun j u hj => by rw [Addr.add_lit]; exact OwnRows.from snGCells_len (ho.ext (hx3.trans hv)) (by omega) hj)
 rw [show i + 1 + (xs.drop i).length = n + 1 by omega, List.take_of_length_le (by simp; omega), List.append_assoc] at ho4
 exact ⟨v2, hr4, ho4, Ext.upd (hx3.trans hv) hu4 (Nat.le_refl _)⟩
theorem wpList_append_run2 {P : Program} {ops : Array Oper} {rest : List Oper} {o : Oper} {a : Act} {w : World} {Q : Exit → Act → World → Prop} (hw : Region.wanted o (yielded ops a.tmps) = true) (s x : Operand) (t t' : TypeId)
    (ho : o.op = .call { callee := .builtin .append, args := #[s, x], argTypes := #[t, t'] }) (v xv : Value) (hs : a.eval s = v) (hx : a.eval x = xv) {v' : Value} {w' : World}
    (hr : (Builtin.append_ #[t, t'] o.type #[v, xv]).run P w = .ok v' w') (h : wpList P ops Q rest (a.put o.dst v') w') : wpList P ops Q (o :: rest) a w := by
 unfold wpList
 rw [if_pos hw]
 left
 unfold Oper.wp execOp
 simp only [ho, resolve, invoke, builtin, Sem.run_bind, Sem.run_pure, Result.andThen_ok, List.map_toArray, List.map_cons, List.map_nil, hs, hx, hr]
 exact h
def InsRet (w : World) (B : Nat) (u : Value) (ys : List Gs4) (e : Ending) (w' : World) : Prop :=
 ∃ u', e = .returned u' ∧ OwnRows 49 4 snGCells w' B u' ys ∧ w.grownBy w' u.ownBlock ∧ (u'.ownBlock = u.ownBlock ∨ u'.ownBlock = some w.heap.size)
set_option maxRecDepth 100000 in
set_option maxHeartbeats 8000000 in
theorem minsert_end (w : World) (B V n c : Nat) (A : Option Addr) (xs : List Gs4) (y : Gs4) (ho : OwnRows 49 4 snGCells w B (.slice A n c) xs) (hn : xs.length = n) (hnc : n ≤ c) (hl : n ≤ 10000) (hB : B ≤ w.heap.size) (hV : w.heap[V]? = some (.cells (snGCells y).toArray 49 (0, 0))) :
    Calls Tryd.prog 87 #[.slice A n c, .int .i64 n, .slice (some ⟨V, 0, none⟩) 1 1] w (InsRet w B (.slice A n c) (xs ++ [y])) := by
 obtain ⟨i0, I0, I1, I2, I3⟩ := info_parts Tryd.infoGS
 obtain ⟨u', w2, hr, ho2, hg2, hb2⟩ := OwnRows.append2 (P := Tryd.prog) (ys := [y]) 23 Tryd.underlying23 I0 I1 I2 I3 rfl (by decide) snGCells_len snGCells_one ho (rows_blk hV) (by simp [maxLen]; omega) (by simp; omega) hB
 obtain ⟨u1, hu1⟩ := cutG_tail A n c n (Nat.le_refl _) hnc w
 have HR := Lib.hid hr
 have HO := Lib.hid ho2
 have HG := Lib.hid hg2
 have HB := Lib.hid hb2
 have l1 : (n : Int) < 100000 := by omega
 clear ho hn hnc hl hB hV I0 I1 I2 I3 hr ho2 hg2 hb2
 go_enter Tryd.func87, Tryd.ntmps87
 go_wp2_with (at_builtin; refine wpList_append_run rfl _ _ 23 rfl _ _ rfl rfl HR.out ?_)
 go_ret
 exact ⟨_, rfl, HO.out, HG.out, HB.out⟩
set_option maxRecDepth 100000 in
set_option maxHeartbeats 8000000 in
theorem minsert_grow (w : World) (B V n c g i : Nat) (xs : List Gs4) (y : Gs4) (ho : OwnRows 49 4 snGCells w B (.slice (some ⟨g, 0, none⟩) n c) xs) (hn : xs.length = n) (hi : i < n) (hc : c < n + 1) (hnc : n ≤ c) (hl : n ≤ 10000) (hB : B ≤ w.heap.size) (hV : w.heap[V]? = some (.cells (snGCells y).toArray 49 (0, 0))) :
    Calls Tryd.prog 87 #[.slice (some ⟨g, 0, none⟩) n c, .int .i64 i, .slice (some ⟨V, 0, none⟩) 1 1] w (InsRet w B (.slice (some ⟨g, 0, none⟩) n c) (xs.take i ++ y :: xs.drop i)) := by
 obtain ⟨c', w2, w3, hr, hc', hr3, hx3, hfin⟩ := ins_c ho hn hi hc hnc hl hB hV
 obtain ⟨S0, hS0⟩ : ∃ S0, w.heap.size = S0 := ⟨_, rfl⟩
 rw [hS0] at hr hr3 hfin
 have k1 : ∀ v, (Instr.slice 23 (.slice (some ⟨g, 0, none⟩) n c) (some (.int .i64 i)) none none).run Tryd.prog v = .ok (.slice (some ⟨g, i * 4, none⟩) (n - i) (c - i)) v := fun v => cutG_k g n c i (by omega) (by omega) hnc v
 have k2 : ∀ v, (Instr.slice 23 (.slice (some ⟨g, 0, none⟩) n c) none (some (.int .i64 i)) none).run Tryd.prog v = .ok (.slice (some ⟨g, 0, none⟩) i c) v := fun v => cutG_to _ _ _ _ (by omega) v
 have k3 : ∀ v, (Instr.slice 23 (.slice (some ⟨S0, 0, none⟩) (n + 1) c') (some (.int .i64 i)) none none).run Tryd.prog v = .ok (.slice (some ⟨S0, i * 4, none⟩) (n + 1 - i) (c' - i)) v := fun v => cutG_k S0 (n + 1) c' i (by omega) (by omega) hc' v
 have k4 : ∀ v, (Instr.slice 23 (.slice (some ⟨S0, 0, none⟩) (n + 1) c') (some (.int .i64 ((i : Int) + 1))) none none).run Tryd.prog v = .ok (.slice (some ⟨S0, (i + 1) * 4, none⟩) (n - i) (c' - (i + 1))) v := fun v => by
  have := cutG_k1 S0 (n + 1) c' i (by omega) (by omega) hc' v
  rwa [show n + 1 - (i + 1) = n - i by omega] at this
 have e1 : ((i : Int) == (n : Int)) = false := by simp; omega
 have e2 : ¬ ((i : Int) = (n : Int)) := by omega
 have e3 : (c : Int) < (n : Int) + 1 := by omega
 have e4 : IntKind.i64.wrap ((n : Int) + 1 - (i : Int)) = (n : Int) + 1 - (i : Int) := IntWalk.i64_in _ (by omega)
 have l1 : (n : Int) < 100000 := by omega
 have l2 : (i : Int) < 100000 := by omega
 have e5 : IntKind.i64.wrap ((i : Int) + 1) = (i : Int) + 1 := IntWalk.i64_in _ (by omega)
 have HR := Lib.hid hr
 have HR3 := Lib.hid hr3
 have HFIN := Lib.hid hfin
 have HX3 := Lib.hid hx3
 have HS0 := Lib.hid hS0
 have HE2 := Lib.hid e2
 clear ho hn hi hc hnc hl hB hV hr hc' hr3 hfin hx3 hS0
 go_enter Tryd.func87, Tryd.ntmps87
 go_upto_region 9 with fail
 go_upto_region 10 with (at_builtin; refine wpList_append_run2 rfl _ _ 23 3 rfl _ _ rfl (by go_simp) HR.out ?_)
 have hr3 := HR3.out
 go_upto_region 11 with fail
 clear hr3
 refine region_gq 8 (fun v => Ext w3 v) (fun v => Ext w3 v) (by kernel_rfl) (Ext.refl w3).drew (fun _ _ d _ _ h => by cases d <;> exact h) ?_
 intro Q9 HQE HQP
 have HGA : ∀ (l : Array Bool) v, Ext w3 v → l.getD 8 false = false → Ext w3 v := fun _ _ h _ => h
 have HG := HGA
 refine g_tk 0 (v := ?_) HG HQP (fun w hS => ?_) ?_
 rotate_left 1
 · go_simp; refine gives_mk ?_ rfl; with_reducible rfl
 refine g_tk 1 (v := ?_) HG HQP (fun w hS => ?_) ?_
 rotate_left 1
 · go_simp; refine gives_mk ?_ rfl; with_reducible rfl
 refine g_tk 2 (v := ?_) HG HQP (fun w hS => ?_) ?_
 rotate_left 1
 · go_simp; refine gives_mk ?_ rfl; with_reducible rfl
 refine g_tk 3 (v := ?_) HG HQP (fun w hS => ?_) ?_
 rotate_left 1
 · go_simp; refine gives_mk ?_ rfl; with_reducible rfl
 refine g_tk 4 (v := ?_) HG HQP (fun w hS => ?_) ?_
 rotate_left 1
 · go_simp; refine gives_mk ?_ rfl; with_reducible rfl
 refine g_tk 5 (v := ?_) HG HQP (fun w hS => ?_) ?_
 rotate_left 1
 · go_simp; refine gives_mk ?_ rfl; with_reducible rfl
 refine g_tk 6 (v := ?_) HG HQP (fun w hS => ?_) ?_
 rotate_left 1
 · go_simp; refine gives_mk ?_ rfl; with_reducible rfl
 refine g_tk 7 (v := ?_) HG HQP (fun w hS => ?_) ?_
 rotate_left 1
 · go_simp; refine gives_mk ?_ rfl; with_reducible rfl
 refine g_end (k := 8) (by kernel_rfl) (by kernel_rfl) (by kernel_rfl) rfl (by kernel_rfl) (fun w9 hS R hR => ?_)
 have HQ9 := Lib.hid hR
 clear hR
 obtain ⟨v2, hr4, ho4, hx4⟩ := HFIN.out w9 hS
 have HO4 := Lib.hid ho4
 have HX4 := Lib.hid hx4
 refine givesM_copy _ _ 23 23 rfl _ _ (by go_simp) (by go_simp) hr4 ?_
 refine HQ9.out _ _ ?_
 clear hr4 ho4 hx4 hS
 have hq9 := HQE.out
 subst hq9
 clear HQ9 HQE HQP HG HGA
 go_simp
 go_wp2
 go_ret
 exact ⟨_, rfl, HO4.out, upd_ext g HX4.out, .inr (by rw [HS0.out]; rfl)⟩
set_option maxRecDepth 100000 in
set_option maxHeartbeats 8000000 in
theorem minsert_in (w : World) (B V n c g i : Nat) (xs : List Gs4) (y : Gs4) (ho : OwnRows 49 4 snGCells w B (.slice (some ⟨g, 0, none⟩) n c) xs) (hn : xs.length = n) (hi : i < n) (hc : n + 1 ≤ c) (hl : n ≤ 10000) (hV : w.heap[V]? = some (.cells (snGCells y).toArray 49 (0, 0))) (hne : V ≠ g) :
    Calls Tryd.prog 87 #[.slice (some ⟨g, 0, none⟩) n c, .int .i64 i, .slice (some ⟨V, 0, none⟩) 1 1] w (InsRet w B (.slice (some ⟨g, 0, none⟩) n c) (xs.take i ++ y :: xs.drop i)) := by
 have k1 : ∀ v, (Instr.slice 23 (.slice (some ⟨g, 0, none⟩) n c) (some (.int .i64 i)) none none).run Tryd.prog v = .ok (.slice (some ⟨g, i * 4, none⟩) (n - i) (c - i)) v := fun v => cutG_k g n c i (by omega) (by omega) (by omega) v
 have k2 : ∀ v, (Instr.slice 23 (.slice (some ⟨g, 0, none⟩) n c) none (some (.int .i64 ((n : Int) + 1))) none).run Tryd.prog v = .ok (.slice (some ⟨g, 0, none⟩) (n + 1) c) v := fun v => by
  have := cutG_to (some ⟨g, 0, none⟩) n c (n + 1) hc v
  rwa [show ((n + 1 : Nat) : Int) = (n : Int) + 1 by omega] at this
 have k3 : ∀ v, (Instr.slice 23 (.slice (some ⟨g, 0, none⟩) (n + 1) c) (some (.int .i64 i)) none none).run Tryd.prog v = .ok (.slice (some ⟨g, i * 4, none⟩) (n + 1 - i) (c - i)) v := fun v => cutG_k g (n + 1) c i (by omega) (by omega) hc v
 have k4 : ∀ v, (Instr.slice 23 (.slice (some ⟨g, 0, none⟩) (n + 1) c) (some (.int .i64 ((i : Int) + 1))) none none).run Tryd.prog v = .ok (.slice (some ⟨g, (i + 1) * 4, none⟩) (n - i) (c - (i + 1))) v := fun v => by
  have := cutG_k1 g (n + 1) c i (by omega) (by omega) hc v
  rwa [show n + 1 - (i + 1) = n - i by omega] at this
 have k5 := fun lb cb => ins_laps (i := (i + 1) * 4) ho (by omega) hV hne lb cb
 have e1 : ((i : Int) == (n : Int)) = false := by simp; omega
 have e2 : ¬ ((i : Int) = (n : Int)) := by omega
 have e3 : ¬ ((c : Int) < (n : Int) + 1) := by omega
 have l1 : (n : Int) < 100000 := by omega
 have l2 : (i : Int) < 100000 := by omega
 have e5 : IntKind.i64.wrap ((i : Int) + 1) = (i : Int) + 1 := IntWalk.i64_in _ (by omega)
 have HO := Lib.hid ho
 have HN : Hid (xs.length = n ∧ i < n ∧ n + 1 ≤ c) := Lib.hid ⟨hn, hi, hc⟩
 have HV := Lib.hid hV
 have HNE := Lib.hid hne
 have HE2 := Lib.hid e2
 clear ho hn hi hc hl hV hne
 go_enter Tryd.func87, Tryd.ntmps87
 go_upto_region 15 with fail
 refine region_gq 8 (fun v => Ext w v) (fun v => Ext w v) (by kernel_rfl) (Ext.refl w).drew (fun _ _ d _ _ h => by cases d <;> exact h) ?_
 intro Q9 HQE HQP
 have HGA : ∀ (l : Array Bool) v, Ext w v → l.getD 8 false = false → Ext w v := fun _ _ h _ => h
 have HG := HGA
 refine g_tk 0 (v := ?_) HG HQP (fun w hS => ?_) ?_
 rotate_left 1
 · go_simp; refine gives_mk ?_ rfl; with_reducible rfl
 refine g_tk 1 (v := ?_) HG HQP (fun w hS => ?_) ?_
 rotate_left 1
 · go_simp; refine gives_mk ?_ rfl; with_reducible rfl
 refine g_tk 2 (v := ?_) HG HQP (fun w hS => ?_) ?_
 rotate_left 1
 · go_simp; refine gives_mk ?_ rfl; with_reducible rfl
 refine g_tk 3 (v := ?_) HG HQP (fun w hS => ?_) ?_
 rotate_left 1
 · go_simp; refine gives_mk ?_ rfl; with_reducible rfl
 refine g_tk 4 (v := ?_) HG HQP (fun w hS => ?_) ?_
 rotate_left 1
 · go_simp; refine gives_mk ?_ rfl; with_reducible rfl
 refine g_tk 5 (v := ?_) HG HQP (fun w hS => ?_) ?_
 rotate_left 1
 · go_simp; refine gives_mk ?_ rfl; with_reducible rfl
 refine g_tk 6 (v := ?_) HG HQP (fun w hS => ?_) ?_
 rotate_left 1
 · go_simp; refine gives_mk ?_ rfl; with_reducible rfl
 refine g_tk 7 (v := ?_) HG HQP (fun w hS => ?_) ?_
 rotate_left 1
 · go_simp; refine gives_mk ?_ rfl; with_reducible rfl
 refine g_end (k := 8) (by kernel_rfl) (by kernel_rfl) (by kernel_rfl) rfl (by kernel_rfl) (fun w9 hS R hR => ?_)
 have HQ9 := Lib.hid hR
 clear hR
 obtain ⟨v2, hr4, ho4, hu4⟩ := ins_a (HO.out.ext hS) HN.out.1 HN.out.2.1 HN.out.2.2
 have hV2 : v2.heap[V]? = some (.cells (snGCells y).toArray 49 (0, 0)) := (hu4.block V (blk_lt (hS.blk HV.out)) (fun e => HNE.out (by injection e))).trans (hS.blk HV.out)
 obtain ⟨v3, hr5, ho5, hu5⟩ := ins_b ho4 (by rw [List.length_append, List.length_take, List.length_drop]; have := HN.out; omega) HN.out.2.1 hV2
 rw [ins_set y (by have := HN.out; omega)] at ho5
 have HO5 := Lib.hid ho5
 have HU5 : Hid (Upd g w v3) := Lib.hid (Upd.trans (Upd.trans (upd_ext g hS) hu4) hu5)
 have HR5 := Lib.hid hr5
 refine givesM_copy _ _ 23 23 rfl _ _ (by go_simp) (by go_simp) hr4 ?_
 refine HQ9.out _ _ ?_
 clear hr4 ho4 hu4 hV2 hr5 ho5 hu5 hS
 have hq9 := HQE.out
 subst hq9
 clear HQ9 HQE HQP HG HGA
 have hr5 := HR5.out
 go_simp
 go_wp2
 go_ret
 exact ⟨_, rfl, HO5.out, HU5.out, .inl rfl⟩
theorem minsert_any (w : World) (B V i : Nat) (u : Value) (xs : List Gs4) (y : Gs4) (ho : OwnRows 49 4 snGCells w B u xs) (hi : i ≤ xs.length) (hl : xs.length ≤ 10000) (hB : B ≤ w.heap.size) (hV : w.heap[V]? = some (.cells (snGCells y).toArray 49 (0, 0))) (hne : u.ownBlock ≠ some V) :
    Calls Tryd.prog 87 #[u, .int .i64 i, .slice (some ⟨V, 0, none⟩) 1 1] w (InsRet w B u (xs.take i ++ y :: xs.drop i)) := by
 obtain ⟨A, c, rfl, hnc⟩ := (OwnRows.rows snGCells_len ho).form
 by_cases h : i = xs.length
 · subst h
   rw [List.take_of_length_le (Nat.le_refl _), List.drop_eq_nil_of_le (Nat.le_refl _)]
   exact minsert_end w B V _ c A xs y ho rfl hnc hl hB hV
 · have hlt : i < xs.length := by omega
   rcases ho.2 with ⟨e1, e2⟩ | ⟨g, cap, cur, hv, -⟩
   · omega
   · simp only [Value.slice.injEq, true_and] at hv
     obtain ⟨rfl, -⟩ := hv
     by_cases hc : xs.length + 1 ≤ c
     · exact minsert_in w B V _ c g i xs y ho rfl hlt hc hl hV (fun e => hne (by rw [e]; rfl))
     · exact minsert_grow w B V _ c g i xs y ho rfl hlt (by omega) hnc hl hB hV
open Go.RowKit Go.Maps
set_option maxRecDepth 100000 in
set_option maxHeartbeats 1000000 in
theorem rfit_any (n : Int) (r : Bool) (hr : snNum n = r) (w : World) : Calls Tryd.prog 50 #[.int .i64 n] w fun e w' => e = .returned (.bool r) ∧ w = w' := by
 have HR := Lib.hid hr
 clear hr
 by_cases h0 : n < 0
 · obtain rfl : r = false := by rw [← HR.out]; unfold snNum; simp; omega
   go_enter Tryd.func50, Tryd.ntmps50
   go_wp2
   go_ret
   exact ⟨rfl, rfl⟩
 · have h0' : 0 ≤ n := by omega
   by_cases h1 : 4611686018427387904 ≤ n
   · obtain rfl : r = false := by rw [← HR.out]; unfold snNum; simp; omega
     go_enter Tryd.func50, Tryd.ntmps50
     go_wp2
     go_ret
     exact ⟨by first | rfl | (simp; done) | (simp; omega), rfl⟩
   · have h1' : n < 4611686018427387904 := by omega
     obtain rfl : r = true := by rw [← HR.out]; exact (snNum_iff n).2 ⟨h0', h1'⟩
     go_enter Tryd.func50, Tryd.ntmps50
     go_wp2
     go_ret
     exact ⟨by first | rfl | (simp; done) | (simp; omega), rfl⟩
def snRight (ps : List (Int × Int)) (gs : List Gs4) (st m : Int) : Bool :=
 if st = 1 ∨ st = 3 then decide (m = 0)
 else if m = 0 ∨ cntG gs m ≠ 1 then false
 else (decide (st = 2) && decide (cntP ps m = 1)) || (decide (st = 4) && decide (cntP ps m = 0))
set_option maxRecDepth 100000 in
set_option maxHeartbeats 1000000 in
theorem rright_any (time : Int) (ps : List (Int × Int)) (gs : List Gs4) (A B : Option Addr) (c d : Nat) (g st m q : Int) (w : World) (h2 : RowsAt 2 snPCells w (.slice A ps.length c) ps) (h3 : RowsAt 4 snGCells w (.slice B gs.length d) gs) (hp : ps.length ≤ 10000) (hg : gs.length ≤ 10000) (r : Bool) (hr : snRight ps gs st m = r) :
    Calls Tryd.prog 52 #[.agg #[.int .i64 time, .slice A ps.length c, .slice B gs.length d], .agg #[.int .i64 g, .int .i64 st, .int .i64 m, .int .i64 q]] w fun e w' => e = .returned (.bool r) ∧ Ext w w' := by
 have H2 := Lib.hid h2
 have H3 := Lib.hid h3
 have HR := Lib.hid hr
 have HX2 : Hid (Ext w ((w.alloc (.cells #[.int .i64 time, .slice A ps.length c, .slice B gs.length d] 25)).alloc (.cells #[.int .i64 g, .int .i64 st, .int .i64 m, .int .i64 q] 49))) := Lib.hid (((Ext.refl w).alloc _).alloc _)
 clear h2 h3 hr
 by_cases h1 : st = 1
 · have e1 : (st == 1) = true := by simp [h1]
   obtain rfl : r = (m == 0) := by rw [← HR.out]; unfold snRight; rw [if_pos (.inl h1)]; rfl
   clear h1
   go_enter Tryd.func52, Tryd.ntmps52
   go_wp2
   go_ret
   exact ⟨rfl, HX2.out⟩
 · by_cases h3 : st = 3
   · have e1 : (st == 1) = false := by simp [h1]
     have e3 : (st == 3) = true := by simp [h3]
     obtain rfl : r = (m == 0) := by rw [← HR.out]; unfold snRight; rw [if_pos (.inr h3)]; rfl
     clear h1 h3
     go_enter Tryd.func52, Tryd.ntmps52
     go_wp2
     go_ret
     exact ⟨rfl, HX2.out⟩
   · have e1 : (st == 1) = false := by simp [h1]
     have e3 : (st == 3) = false := by simp [h3]
     have HQ : Hid ((if m = 0 ∨ cntG gs m ≠ 1 then false else (decide (st = 2) && decide (cntP ps m = 1)) || (decide (st = 4) && decide (cntP ps m = 0))) = r) := Lib.hid (by rw [← HR.out]; unfold snRight; rw [if_neg (by omega : ¬ (st = 1 ∨ st = 3))])
     clear h1 h3
     have hgl := cntG_le gs m
     have hpl := cntP_le ps m
     generalize hcg : cntG gs m = ng at *
     generalize hcp : cntP ps m = np at *
     have HCG := Lib.hid hcg
     have HCP := Lib.hid hcp
     clear hcg hcp
     by_cases hm0 : m = 0
     · have e0 : (m == 0) = true := by simp [hm0]
       obtain rfl : r = false := by rw [← HQ.out, if_pos (.inl hm0)]
       clear hm0
       go_enter Tryd.func52, Tryd.ntmps52
       go_wp2
       go_ret
       exact ⟨rfl, HX2.out⟩
     · have e0 : (m == 0) = false := by simp [hm0]
       have hasK : ∀ w1, RowsAt 4 snGCells w1 (.slice B gs.length d) gs → Calls Tryd.prog 72 #[.slice B gs.length d, .int .i64 m] w1 fun e w' => e = .returned (.int .i64 (ng : Nat)) ∧ w1 = w' := fun w1 h => by rw [← HCG.out]; exact rhas_any _ gs m w1 h (by omega)
       have holdK : ∀ w1, RowsAt 2 snPCells w1 (.slice A ps.length c) ps → Calls Tryd.prog 51 #[.slice A ps.length c, .int .i64 m] w1 fun e w' => e = .returned (.int .i64 (np : Nat)) ∧ w1 = w' := fun w1 h => by rw [← HCP.out]; exact rsnholds_any _ ps m w1 h (by omega)
       have HASK := Lib.hid hasK
       have HOLDK := Lib.hid holdK
       clear hasK holdK
       by_cases hg1 : ng = 1
       · have g1 : ((ng : Int) != 1) = false := by simp; omega
         have HQ2 : Hid ((decide (st = 2) && decide (np = 1) || decide (st = 4) && decide (np = 0)) = r) := Lib.hid (by rw [← HQ.out, if_neg (by omega)])
         clear hm0 hg1
         have hcase : (st = 2 ∧ np = 1) ∨ (st = 2 ∧ np ≠ 1) ∨ (st ≠ 2 ∧ st = 4 ∧ np = 0) ∨ (st ≠ 2 ∧ st = 4 ∧ np ≠ 0) ∨ (st ≠ 2 ∧ st ≠ 4) := by omega
         rcases hcase with ⟨k1, k2⟩ | ⟨k1, k2⟩ | ⟨k1, k2, k3⟩ | ⟨k1, k2, k3⟩ | ⟨k1, k2⟩
         · have b1 : (st == 2) = true := by simp [k1]
           have b2 : ((np : Int) == 1) = true := by simp [k2]
           obtain rfl : r = true := by rw [← HQ2.out]; simp [k1, k2]
           clear k1 k2
           (try clear k3)
           go_enter Tryd.func52, Tryd.ntmps52
           go_wp2_with (first | (go_at_call 72; refine (HASK.out _ (H3.out.ext HX2.out)).mono ?_; rintro e w' ⟨rfl, rfl⟩) | (go_at_call 51; refine (HOLDK.out _ (H2.out.ext HX2.out)).mono ?_; rintro e w' ⟨rfl, rfl⟩))
           go_ret
           exact ⟨rfl, HX2.out⟩
         · have b1 : (st == 2) = true := by simp [k1]
           have b2 : ((np : Int) == 1) = false := by simp; omega
           have b4 : (st == 4) = false := by simp [k1]
           obtain rfl : r = false := by rw [← HQ2.out]; simp [k1, k2]
           clear k1 k2
           (try clear k3)
           go_enter Tryd.func52, Tryd.ntmps52
           go_wp2_with (first | (go_at_call 72; refine (HASK.out _ (H3.out.ext HX2.out)).mono ?_; rintro e w' ⟨rfl, rfl⟩) | (go_at_call 51; refine (HOLDK.out _ (H2.out.ext HX2.out)).mono ?_; rintro e w' ⟨rfl, rfl⟩))
           go_ret
           exact ⟨rfl, HX2.out⟩
         · have b1 : (st == 2) = false := by simp [k1]
           have b2 : (st == 4) = true := by simp [k2]
           have b3 : ((np : Int) == 0) = true := by simp [k3]
           obtain rfl : r = true := by rw [← HQ2.out]; simp [k2, k3]
           clear k1 k2
           (try clear k3)
           go_enter Tryd.func52, Tryd.ntmps52
           go_wp2_with (first | (go_at_call 72; refine (HASK.out _ (H3.out.ext HX2.out)).mono ?_; rintro e w' ⟨rfl, rfl⟩) | (go_at_call 51; refine (HOLDK.out _ (H2.out.ext HX2.out)).mono ?_; rintro e w' ⟨rfl, rfl⟩))
           go_ret
           exact ⟨rfl, HX2.out⟩
         · have b1 : (st == 2) = false := by simp [k1]
           have b2 : (st == 4) = true := by simp [k2]
           have b3 : ((np : Int) == 0) = false := by simp; omega
           obtain rfl : r = false := by rw [← HQ2.out]; simp [k2, k3]
           clear k1 k2
           (try clear k3)
           go_enter Tryd.func52, Tryd.ntmps52
           go_wp2_with (first | (go_at_call 72; refine (HASK.out _ (H3.out.ext HX2.out)).mono ?_; rintro e w' ⟨rfl, rfl⟩) | (go_at_call 51; refine (HOLDK.out _ (H2.out.ext HX2.out)).mono ?_; rintro e w' ⟨rfl, rfl⟩))
           go_ret
           exact ⟨rfl, HX2.out⟩
         · have b1 : (st == 2) = false := by simp [k1]
           have b2 : (st == 4) = false := by simp [k2]
           obtain rfl : r = false := by rw [← HQ2.out]; simp [k1, k2]
           clear k1 k2
           (try clear k3)
           go_enter Tryd.func52, Tryd.ntmps52
           go_wp2_with (first | (go_at_call 72; refine (HASK.out _ (H3.out.ext HX2.out)).mono ?_; rintro e w' ⟨rfl, rfl⟩) | (go_at_call 51; refine (HOLDK.out _ (H2.out.ext HX2.out)).mono ?_; rintro e w' ⟨rfl, rfl⟩))
           go_ret
           exact ⟨rfl, HX2.out⟩
       · have g1 : ((ng : Int) != 1) = true := by simp; omega
         obtain rfl : r = false := by rw [← HQ.out, if_pos (.inr hg1)]
         clear hm0 hg1
         go_enter Tryd.func52, Tryd.ntmps52
         go_wp2_with (first | (go_at_call 72; refine (HASK.out _ (H3.out.ext HX2.out)).mono ?_; rintro e w' ⟨rfl, rfl⟩) | (go_at_call 51; refine (HOLDK.out _ (H2.out.ext HX2.out)).mono ?_; rintro e w' ⟨rfl, rfl⟩))
         go_ret
         exact ⟨rfl, HX2.out⟩
section
variable {P : Program} {ti : TypeId}
theorem run_eqFields_ints (hi : P.underlying ti = some (.int .i64)) (hp : P.plainKey ti = true) (d : Nat) (xs ys : Array Value) (f g : Nat → Int) (w : World) : ∀ fs : List Field, (∀ e ∈ fs, e.name ≠ "_" ∧ e.type = ti ∧ xs[e.offset]? = some (.int .i64 (f e.offset)) ∧ ys[e.offset]? = some (.int .i64 (g e.offset))) →
    (Op.eqFields (d + 1) xs ys fs).run P w = .ok (fs.all fun e => f e.offset == g e.offset) w
 | [], _ => by simp [Op.eqFields]
 | e :: fs, h => by
  obtain ⟨hn, ht, h1, h2⟩ := h e (by simp)
  have ih := run_eqFields_ints hi hp d xs ys f g w fs fun j hj => h j (by simp [hj])
  have p1 := run_part_plain (P := P) w (e := ti) hp h1
  have p2 := run_part_plain (P := P) w (e := ti) hp h2
  simp only [Op.eqFields, hn, ne_eq, not_false_eq_true, if_true, ht, Sem.run_bind, p1, p2, Result.andThen_ok, run_equalIn_int w d ti .i64 .i64 (f e.offset) (g e.offset) hi, List.all_cons]
  cases hb : (f e.offset == g e.offset) with
  | false => simp
  | true => simpa using ih
def IntStruct (P : Program) (t ti : TypeId) (n : Nat) : Bool := !P.stoodInHeld t && (P.fieldsOf t).toList.all (fun e => e.name != "_" && e.type == ti && decide (e.offset < n)) && (P.fieldsOf t).toList.map (·.offset) == List.range n
theorem run_eqInts {t : TypeId} (hi : P.underlying ti = some (.int .i64)) (hp : P.plainKey ti = true) (ht : P.underlying t = some (.struct (P.fieldsOf t))) (n : Nat) (hs : IntStruct P t ti n = true) (f g : List Int) (hf : f.length = n) (hg : g.length = n) (w : World) :
    (Op.equal t (.agg (f.map (Value.int .i64)).toArray) (.agg (g.map (Value.int .i64)).toArray)).run P w = .ok (decide (f = g)) w := by
 unfold IntStruct at hs
 simp only [Bool.and_eq_true, Bool.not_eq_true', beq_iff_eq] at hs
 obtain ⟨⟨h1, h2⟩, h3⟩ := hs
 show (Op.equalIn (9999 + 1) _ _ _).run _ _ = _
 rw [run_equalIn_struct w 9999 _ _ _ ht h1]
 rw [run_eqFields_ints hi hp 9998 _ _ (fun i => f.getD i 0) (fun i => g.getD i 0) w _ fun e he => by
  have := List.all_eq_true.1 h2 e he
  simp only [Bool.and_eq_true, bne_iff_ne, ne_eq, beq_iff_eq, decide_eq_true_eq] at this
  obtain ⟨⟨a1, a2⟩, a3⟩ := this
  refine ⟨a1, a2, ?_, ?_⟩
  · rw [List.getElem?_toArray, List.getElem?_map, List.getElem?_eq_getElem (by omega)]; simp [List.getD, List.getElem?_eq_getElem (show e.offset < f.length by omega)]
  · rw [List.getElem?_toArray, List.getElem?_map, List.getElem?_eq_getElem (by omega)]; simp [List.getD, List.getElem?_eq_getElem (show e.offset < g.length by omega)]]
 congr 1
 have e1 : ((P.fieldsOf t).toList.all fun e => f.getD e.offset 0 == g.getD e.offset 0) = ((List.range n).all fun i => f.getD i 0 == g.getD i 0) := by rw [← h3, List.all_map]; rfl
 rw [e1, Bool.eq_iff_iff, List.all_eq_true, decide_eq_true_eq]
 constructor
 · intro h
   apply List.ext_getElem (by omega)
   intro i hi1 hi2
   have := h i (List.mem_range.2 (by omega))
   simpa [List.getD, List.getElem?_eq_getElem hi1, List.getElem?_eq_getElem hi2] using this
 · rintro rfl i _
   simp
end
open Go.RowKit Go.Maps
theorem run_eqP (a b c d : Int) (w : World) : (Op.equal 61 (.agg #[.int .i64 a, .int .i64 b]) (.agg #[.int .i64 c, .int .i64 d])).run Tryd.prog w = .ok (decide ([a, b] = [c, d])) w :=
 run_eqInts (ti := 3) Tryd.underlying3 (by kernel_rfl) (by kernel_rfl) 2 (by kernel_rfl) [a, b] [c, d] rfl rfl w
end Go.Proofs.YtohncgikdlbogaaDoor
