/-
  Several texts in one: Izfa, Izg, Izh.
-/
import Derived.Test.YthkalaohaholaaaIzx
import Derived.Test.YthkalaohaholaaaLg
import Derived.Test.YthkalaohaholaaaIy
import Derived.Test.YthkalaohaholaaaIzx
set_option linter.unusedVariables false
set_option linter.unusedSimpArgs false
namespace Go.Proofs.Ythkalaohaholaaa
open Go.RowKit Go.Maps

theorem flat_ones (l : List Value) : l.flatMap oneL = l := by
  induction l with
  | nil => rfl
  | cons x l ih => simp only [List.flatMap_cons, ih]; rfl
theorem rowsAt_one {α : Type} {m : Nat} {f : α → List Value} {w : World} {u : Value} {xs : List α} (h : RowsAt m f w u xs) : u.oneCell' = true := by
  obtain ⟨A, c, rfl, _⟩ := h
  rfl
section
variable {α : Type} {m : Nat} {f : α → List Value}
theorem nest_ones {w : World} {vs : List Value} {xss : List (List α)} (hl : vs.length = xss.length) (h : ∀ (i : Nat) u xs, vs[i]? = some u → xss[i]? = some xs → RowsAt m f w u xs) : ∀ u ∈ vs, u.oneCell' = true := fun u hu => by
  obtain ⟨i, hi⟩ := List.mem_iff_getElem?.1 hu
  have hlt : i < xss.length := by have := (List.getElem?_eq_some_iff.1 hi).1; omega
  exact rowsAt_one (h i u _ hi (List.getElem?_eq_getElem hlt))
theorem nest_snoc {P : Program} {e t : TypeId} (ty : TypeId) {bytes : Nat} {i : TypeInfo} {z : Value} (ht : P.underlying t = some (.slice e)) (hi : P.info? e = some i) (hz : i.zero = some z) (hsize : i.size = 1) (hby : i.bytes = bytes) (hzs : z.cells.size = 1)
    {S : Nat → Prop} {w : World} {A : Option Addr} {n c : Nat} {xss : List (List α)} {u : Value} {xs : List α} (hn : n = xss.length) (h : NestOff S m f w (.slice A n c) xss) (hu : RowsOff S m f w u xs) (hS : ∀ b, S b → b < w.heap.size) (hb : (xss.length + 1) * bytes ≤ 140737488355328) (hx : xss.length + 1 ≤ maxLen) :
    ∃ v3 w3 A5 c5 w5, (Builtin.append_ #[t, t] ty #[.slice (some ⟨w.heap.size, 0, none⟩) 0 0, .slice A n c]).run P (w.alloc (.cells #[] e)) = .ok v3 w3 ∧
      (Builtin.append_ #[t, t] ty #[v3, .slice (some ⟨w3.heap.size, 0, none⟩) 1 1]).run P (w3.alloc (.cells #[u] e)) = .ok (.slice A5 (n + 1) c5) w5 ∧ Ext w w3 ∧ Ext w w5 ∧ NestOff S m f w5 (.slice A5 (n + 1) c5) (xss ++ [xs]) := by
  subst hn
  obtain ⟨vs, hvl, ⟨A', c', hv, hc, hA⟩, hr⟩ := h
  rw [hvl] at hv
  simp only [Value.slice.injEq, true_and] at hv
  obtain ⟨rfl, rfl⟩ := hv
  have hx2 : Ext w (w.alloc (.cells #[] e)) := (Ext.refl w).alloc _
  have hmade : (w.alloc (.cells #[] e)).ownsRow w.heap.size e 1 (.slice (some ⟨w.heap.size, 0, none⟩) 0 0) 0 [] := World.ownsRow_made (base := w.heap.size) (e := e) (size := 1) w #[] 0 (Nat.le_refl _) (by decide) rfl
  obtain ⟨v3, w3, hr3, ho3, hg3, hk3⟩ := own_append2 (P := P) ty ht hi hz hsize hby hzs (by decide) hmade (A := A) (m := xss.length) c (news := vs) (by rw [hvl, Nat.mul_one]) (fun h0 => by
    obtain ⟨b, o, rfl, h1, h2, h3⟩ := hA (by omega)
    refine ⟨_, rfl, fun j x hj => ?_⟩
    have := h3 j x hj 0 x rfl
    rw [Addr.add_lit, Below.cell hx2 h2]
    rwa [Nat.mul_one, Nat.add_zero] at this) (nest_ones hvl fun i u xs a b => (hr i u xs a b).rows) (by omega) (by
      have : (0 + xss.length) * bytes ≤ (xss.length + 1) * bytes := Nat.mul_le_mul_right _ (by omega)
      omega) (by simp)
  have hx3 : Ext w w3 := Below.grown hx2 hg3 hx2.size fun k hk => (hmade.lt k hk).1
  obtain ⟨v5, w5, hr5, ho5, hg5, hk5⟩ := own_append2 (P := P) ty ht hi hz hsize hby hzs (by decide) (World.ownsRow.alloc ho3 (.cells #[u] e)) (A := some ⟨w3.heap.size, 0, none⟩) (m := 1) 1 (news := [u]) rfl (fun _ => ⟨_, rfl, fun j x hj => by
    have hj0 : j = 0 := by have := (List.getElem?_eq_some_iff.1 hj).1; simpa using this
    subst hj0
    simp only [List.getElem?_cons_zero, Option.some.injEq] at hj
    subst hj
    rw [Addr.add_lit, Nat.zero_add, World.cell?_alloc_new]
    rfl⟩) (fun x hx => by simp at hx; subst hx; exact rowsAt_one hu.rows) (by omega) (by
      have : 0 + xss.length + 1 = xss.length + 1 := by omega
      rw [this]; exact hb) (by have := hx3.size; simp; omega)
  have hx5 : Ext w w5 := Below.grown (hx3.alloc _) hg5 (hx3.alloc _).size fun k hk => (World.ownsRow.lt (World.ownsRow.alloc ho3 (.cells #[u] e)) k hk).1
  have ho : OwnRows e 1 oneL w5 w.heap.size v5 (vs ++ [u]) := by
    unfold OwnRows
    rw [flat_ones, List.length_append, List.length_singleton, hvl, show xss.length + 1 = 0 + xss.length + 1 by omega]
    exact ho5
  obtain ⟨A5, c5, rfl, hc5⟩ := (OwnRows.rows oneL_len ho).form
  have hlen : (vs ++ [u]).length = xss.length + 1 := by simp [hvl]
  rw [hlen] at hr5 ho hc5
  refine ⟨v3, w3, A5, c5, w5, hr3, hr5, hx3, hx5, vs ++ [u], by simp [hvl], ?_, ?_⟩
  · have h1 := (OwnRows.rowsIn oneL_len ho).off (S := S) fun b h1 _ hs => by have := hS b hs; omega
    exact h1
  · intro i y ys h1 h2
    by_cases hlt : i < vs.length
    · rw [List.getElem?_append_left hlt] at h1
      rw [List.getElem?_append_left (by omega)] at h2
      exact (hr i y ys h1 h2).but (But.ext hx5)
    · have hi0 : i = vs.length := by have := (List.getElem?_eq_some_iff.1 h1).1; simp at this; omega
      subst hi0
      rw [List.getElem?_append_right (by omega), Nat.sub_self] at h1
      rw [List.getElem?_append_right (by omega), hvl, Nat.sub_self] at h2
      simp only [List.getElem?_cons_zero, Option.some.injEq] at h1 h2
      subst h1 h2
      exact hu.but (But.ext hx5)
end
theorem NestOff.wide2 {α : Type} {S T : Nat → Prop} {m : Nat} {f : α → List Value} {w : World} {v : Value} {xss : List (List α)} (h : NestOff S m f w v xss) (hs : ∀ b, b < w.heap.size → T b → S b) : NestOff T m f w v xss := by
  obtain ⟨vs, h1, h2, h3⟩ := h
  exact ⟨vs, h1, h2.wide hs, fun i u xs a b => (h3 i u xs a b).wide hs⟩
/-- What the numbers of the frames laid so far are. -/
theorem Tb.adds_in {t : Tb} {l : List (ByteArray × Int)} (hl : t.ss.length + l.length ≤ 90000) (hf : ∀ f ∈ l, FcIn f) : ∀ g ∈ (Tb.adds t l).2, FrIn g := by
  have h : ∀ (l : List (ByteArray × Int)) (q : Tb × List (Int × Int)), q.1.ss.length + l.length ≤ 90000 → (∀ f ∈ l, FcIn f) → (∀ g ∈ q.2, FrIn g) → ∀ g ∈ (l.foldl Tb.addStep q).2, FrIn g := by
    intro l
    induction l with
    | nil => intro q _ _ h; exact h
    | cons f l ih =>
      intro q h1 h2 h3
      rw [List.foldl_cons]
      simp only [List.length_cons] at h1
      have hlen := (Tb.add_len q.1 f.1).1
      refine ih _ ?_ (fun x hx => h2 x (by simp [hx])) ?_
      · have : (Tb.addStep q f).1 = (q.1.add f.1).1 := rfl
        rw [this]; omega
      · intro g hg
        have : (Tb.addStep q f).2 = q.2 ++ [((q.1.add f.1).2, f.2)] := rfl
        rw [this] at hg
        rcases List.mem_append.1 hg with hg | hg
        · exact h3 g hg
        · rw [List.mem_singleton.1 hg]
          refine ⟨?_, (h2 f (by simp)).2⟩
          have hle := Tb.idx_le (l := q.1.ss) (x := f.1)
          have hge : 0 ≤ Tb.idx q.1.ss f.1 := by
            by_cases hin : f.1 ∈ q.1.ss
            · have := Tb.idx_pos.2 hin; omega
            · rw [Tb.idx_zero.2 hin]; exact Int.le_refl 0
          unfold Tb.add i64in
          split
          · simp
          · split
            · simp only; omega
            · simp only; omega
  exact h l (t, []) hl hf (by simp)
def HasT (w0 : World) (ls lk : Nat) (n : Int) (w : World) (u v : GV) : Prop := ∃ A c B d, u.v = .tuple #[.agg #[.slice A ls c, .slice B lk d], .int .i64 n] ∧ HasN 25 w0 w v #[.slice A ls c, .slice B lk d]
theorem HasT.ext {w0 w w' : World} {ls lk : Nat} {n : Int} {u v : GV} (h : HasT w0 ls lk n w u v) (hx : Ext w w') : HasT w0 ls lk n w' u v := by
  obtain ⟨A, c, B, d, h1, h2⟩ := h
  exact ⟨A, c, B, d, h1, h2.ext hx⟩
set_option maxRecDepth 100000 in
set_option maxHeartbeats 16000000 in
theorem rstk_any (v u : Value) (t : Tb) (l : List (ByteArray × Int)) (w : World) (h : TabAt w v t) (hf : t.Fine) (hl : t.ss.length + l.length ≤ 90000) (hfr : RowsAt 2 fcL w u l) (hfi : ∀ f ∈ l, FcIn f) :
    Calls Try.prog 14 #[v, u] w (AddP (Tb.rstk t l) w) := by
  obtain ⟨A, c, B, d, rfl, h1, h2⟩ := h.two
  obtain ⟨C, q, rfl, hq⟩ := hfr.form
  obtain ⟨w1, hw1⟩ : ∃ w1, (w.alloc (.cells #[.slice A t.ss.length c, .slice B t.ks.length d] 25)).alloc (.cells #[.slice none 0 0, .slice none 0 0] 25) = w1 := ⟨_, rfl⟩
  obtain ⟨p, hp⟩ : ∃ p, w.heap.size = p := ⟨_, rfl⟩
  have HX1 : Hid (Ext w w1) := Lib.hid (by rw [← hw1]; exact ((Ext.refl w).alloc _).alloc _)
  have HB1 : Hid (w1.heap[p]? = some (.cells #[.slice A t.ss.length c, .slice B t.ks.length d] 25 (0, 0))) := Lib.hid (by rw [← hw1, ← hp]; exact blk_alloc (blk_new w _) _)
  have HR1 : Hid (w1.heap[p + 1]? = some (.cells #[.slice none 0 0, .slice none 0 0] 25 (0, 0))) := Lib.hid (by
    have := blk_new (w.alloc (.cells #[.slice A t.ss.length c, .slice B t.ks.length d] 25)) (.cells #[.slice none 0 0, .slice none 0 0] 25)
    rw [hw1, show (w.alloc (.cells #[.slice A t.ss.length c, .slice B t.ks.length d] 25)).heap.size = p + 1 by simp [hp]] at this
    exact this)
  have HC : Hid (∀ w', Ext w1 w' → (w'.cell? ⟨w.heap.size, 0, none⟩ = some (.slice A t.ss.length c) ∧ w'.cell? ⟨w.heap.size, 1, none⟩ = some (.slice B t.ks.length d)) ∧ (w'.cell? ⟨w.heap.size + 1, 0, none⟩ = some (.slice none 0 0) ∧ w'.cell? ⟨w.heap.size + 1, 1, none⟩ = some (.slice none 0 0)) ∧ w'.frozen? ⟨w.heap.size + 1, 0, none⟩ = false ∧ w'.frozen? ⟨w.heap.size + 1, 1, none⟩ = false ∧ w'.heap[w.heap.size + 1]? = some (.cells #[.slice none 0 0, .slice none 0 0] 25 (0, 0))) := Lib.hid fun w' hx => by
    rw [hp]
    exact ⟨⟨blk_cell (hx.blk HB1.out) 0 _ rfl, blk_cell (hx.blk HB1.out) 1 _ rfl⟩, ⟨blk_cell (hx.blk HR1.out) 0 _ rfl, blk_cell (hx.blk HR1.out) 1 _ rfl⟩, frozen_of_row _ _ 0 _ _ (hx.blk HR1.out), frozen_of_row _ _ 1 _ _ (hx.blk HR1.out), hx.blk HR1.out⟩
  have HT0 := Lib.hid h
  have HT1 := Lib.hid (h.ext HX1.out)
  have HF := Lib.hid hf
  have HFR := Lib.hid hfr
  have HFI := Lib.hid hfi
  have HW1 := Lib.hid hw1
  have HP := Lib.hid hp
  have HPS : Hid (p + 1 < w1.heap.size) := Lib.hid (blk_lt HR1.out)
  have HNONE : Hid (∀ w2, Ext w w2 → AddP (Tb.none, 0) w (.returned (.tuple #[.agg #[.slice none 0 0, .slice none 0 0], .int .i64 0])) ((w2.setCell ⟨w.heap.size + 1, 0, none⟩ (.slice none 0 0)).setCell ⟨w.heap.size + 1, 1, none⟩ (.slice none 0 0))) := Lib.hid fun w2 hx => ⟨_, rfl, tabAt_none _, hx.upd (upd2 _ _ _ _) (by omega)⟩
  clear h h1 h2 hw1 hp hf hfr hfi
  obtain ⟨⟨b0, b1⟩, ⟨q0, q1⟩, y0, y1, -⟩ := HC.out w1 (Ext.refl _)
  cases hm : t.may with
  | false =>
    have HT : Hid (Tb.rstk t l = (Tb.none, 0)) := Lib.hid (by unfold Tb.rstk; rw [if_neg (by rw [hm]; simp)])
    have HM := Lib.hid (rtmay_k _ t false w1 hm HT1.out HF.out)
    go_enter Try.func14, Try.ntmps14
    go_wp2_with (rw [HW1.out])
    refine HM.out.mono ?_
    rintro e w2 ⟨rfl, hx⟩
    have HX2 := Lib.hid (HX1.out.trans hx)
    clear b0 b1 q0 q1 y0 y1
    obtain ⟨⟨b0, b1⟩, ⟨q0, q1⟩, y0, y1, hrow⟩ := HC.out w2 hx
    have HROW := Lib.hid hrow
    clear hx hrow
    go_wp2
    have hz := set2_at HROW.out (.slice none 0 0) (.slice none 0 0)
    have t0 := blk_cell hz 0 _ rfl
    have t1 := blk_cell hz 1 _ rfl
    refine bodyPost_ret (v := .tuple #[.agg #[.slice none 0 0, .slice none 0 0], .int .i64 0]) (by simp [results, Try.results14, go_sem, t0, t1]) rfl ?_
    rw [HT.out]
    exact HNONE.out _ HX2.out
  | true =>
    have HM := Lib.hid (rtmay_k _ t true w1 hm HT1.out HF.out)
    go_enter Try.func14, Try.ntmps14
    go_wp2_with (rw [HW1.out])
    refine HM.out.mono ?_
    rintro e w2 ⟨rfl, hx⟩
    have HX2 := Lib.hid (HX1.out.trans hx)
    have HY2 := Lib.hid hx
    clear b0 b1 q0 q1 y0 y1
    obtain ⟨⟨b0, b1⟩, ⟨q0, q1⟩, y0, y1, hrow⟩ := HC.out w2 hx
    have HROW := Lib.hid hrow
    clear hx hrow
    by_cases he : l = []
    · subst he
      have HT : Hid (Tb.rstk t [] = (t, 0)) := Lib.hid (by unfold Tb.rstk; rw [if_pos hm, if_pos rfl])
      simp only [List.length_nil, Int.natCast_zero] at *
      go_wp2
      have hz := set2_at HROW.out (.slice A t.ss.length c) (.slice B t.ks.length d)
      have t0 := blk_cell hz 0 _ rfl
      have t1 := blk_cell hz 1 _ rfl
      have hux := upd2 (w.heap.size + 1) w2 (.slice A t.ss.length c) (.slice B t.ks.length d)
      have hx := HX2.out.upd hux (by omega)
      refine bodyPost_ret (v := .tuple #[.agg #[.slice A t.ss.length c, .slice B t.ks.length d], .int .i64 0]) (by simp [results, Try.results14, go_sem, t0, t1]) rfl ?_
      rw [HT.out]
      exact ⟨_, rfl, HT0.out.ext hx, hx⟩
    · have hz0 : ((l.length : Int) == 0) = false := by
        have := List.length_pos_iff.2 he
        simp; omega
      clear q0 q1 y0 y1
      go_wp2_with fail
      go_loopw [6, 7] (fun sv iv wr => ∃ k : Nat, k ≤ l.length ∧ iv = .int .i64 k ∧ ∃ tv, RK p w2.heap.size (Tb.adds t (l.take k)) sv tv wr ∧ Ext w wr ∧ w2.heap.size ≤ wr.heap.size) (fun _ iv _ => l.length - (intOf iv).toNat)
      case atStart =>
        have hx3 : Ext w2 (w2.alloc (.cells #[] 54)) := (Ext.refl w2).alloc _
        refine ⟨0, by omega, rfl, .agg #[.slice A t.ss.length c, .slice B t.ks.length d], ⟨⟨_, _, rfl, (HY2.out.trans hx3).blk HB1.out⟩, (HY2.out.trans hx3).blk HR1.out, ?_, World.ownsRow_made (base := w2.heap.size) (e := 54) (size := 2) w2 #[] 0 (Nat.le_refl _) (by decide) rfl⟩, HX2.out.trans hx3, hx3.size⟩
        have hz2 := HY2.out.size
        exact (HT0.out.off (S := SB p (.slice (some ⟨w2.heap.size, 0, none⟩) 0 0)) (fun b hb hs => by
          have := HP.out
          have := HX2.out.size
          rcases hs with hs | hs | hs
          · omega
          · omega
          · simp [Value.ownBlock] at hs; omega)).but (But.ext (HX2.out.trans hx3))
      case round =>
        obtain ⟨k, hk, rfl, tv, hrk, hxw, hzz⟩ := hrel
        obtain ⟨hq, hf⟩ := Tb.adds_fine HF.out (l.take k) (by rw [List.length_take]; omega)
        have hlk : (Tb.adds t (l.take k)).2.length = k := by have := (Tb.adds_ks (l.take k) (t, [])).2; rw [List.length_take] at this; simpa [Tb.adds, Nat.min_eq_left hk] using this
        have hsk : (Tb.adds t (l.take k)).1.ss.length ≤ 90000 := by rw [List.length_take] at hf; omega
        have HSNOC := Lib.hid (fun f (h : l[k]? = some f) => show Tb.adds t (l.take (k + 1)) = Tb.addStep (Tb.adds t (l.take k)) f by
          obtain ⟨h1, h2⟩ := List.getElem?_eq_some_iff.1 h
          rw [List.take_succ_eq_append_getElem h1, h2, Tb.adds_snoc])
        have HTOP := Lib.hid (fun (h : k = l.length) => show Tb.adds t l = Tb.adds t (l.take k) by rw [h, List.take_length])
        generalize Tb.adds t (l.take k) = qq at *
        obtain ⟨tq, fs⟩ := qq
        simp only at hlk hsk
        have HQF := Lib.hid hq
        obtain ⟨a0, c0, rfl, hbox⟩ := hrk.box
        obtain ⟨A1, k1, B1, d1, hv⟩ := hrk.tab.two
        simp only [Value.agg.injEq, Array.mk.injEq, List.cons.injEq, and_true] at hv
        obtain ⟨rfl, rfl⟩ := hv
        obtain ⟨As, cs, rfl, hcs⟩ := (OwnRows.rows frL_len hrk.own).form
        simp only [hlk] at hcs hrk hbox ⊢
        have HRK := Lib.hid hrk
        have HXW := Lib.hid hxw
        have HB := Lib.hid hbox
        have HZZ := Lib.hid hzz
        clear hq hf hrk hxw hzz hbox b0 b1
        by_cases hlt : k < l.length
        · obtain ⟨f, hf⟩ : ∃ f, l[k]? = some f := ⟨_, List.getElem?_eq_getElem hlt⟩
          have HSN := Lib.hid (HSNOC.out f hf)
          have HFF := Lib.hid (HFI.out f (List.mem_of_getElem? hf))
          obtain ⟨bf, of, rfl, hbf, e0, e1⟩ := fcs_get HFR.out hf
          obtain ⟨s, ln⟩ := f
          have HE0 := Lib.hid e0
          have HE1 := Lib.hid e1
          have HBF := Lib.hid hbf
          have HSB : Hid (∀ b, SB p (.slice As k cs) b → b < wr.heap.size) := Lib.hid fun b hb => by
            have := blk_lt HRK.out.res
            rcases hb with hb | hb | hb
            · omega
            · omega
            · exact (OwnRows.lt HRK.out.own b (by simpa [hlk] using hb)).2
          have HEC : Hid (∀ v, Ext wr v → v.cell? ⟨bf, of + k * 2, none⟩ = some (.string s)) := Lib.hid fun v hv => by
            have h1 := Below.cell hv (p := ⟨bf, of + k * 2, none⟩) (by have := (HXW.out).size; show bf < _; omega)
            rw [h1]
            have h2 := Below.cell HXW.out (p := ⟨bf, of + k * 2, none⟩) hbf
            rw [h2]
            exact e0
          have HEL : Hid (∀ v, Ext wr v → v.cell? ⟨bf, of + k * 2 + 1, none⟩ = some (.int .i64 ln)) := Lib.hid fun v hv => by
            have h1 := Below.cell hv (p := ⟨bf, of + k * 2 + 1, none⟩) (by have := (HXW.out).size; show bf < _; omega)
            rw [h1]
            have h2 := Below.cell HXW.out (p := ⟨bf, of + k * 2 + 1, none⟩) hbf
            rw [h2]
            exact e1
          have HBC : Hid (∀ v, Ext wr v → v.cell? ⟨w.heap.size, 0, none⟩ = some (.slice A1 tq.ss.length k1) ∧ v.cell? ⟨w.heap.size, 1, none⟩ = some (.slice B1 tq.ks.length d1)) := Lib.hid fun v hv => by
            rw [HP.out]
            exact ⟨blk_cell (hv.blk HB.out) 0 _ rfl, blk_cell (hv.blk HB.out) 1 _ rfl⟩
          clear hf e0 e1 hbf
          obtain ⟨t3, ht3⟩ : ∃ t3, (tq.add s).1 = t3 := ⟨_, rfl⟩
          obtain ⟨n3, hn3⟩ : ∃ n3, (tq.add s).2 = n3 := ⟨_, rfl⟩
          have HADP : Hid (tq.add s = (t3, n3)) := Lib.hid (Prod.ext ht3 hn3)
          obtain ⟨ls, hls⟩ : ∃ ls, t3.ss.length = ls := ⟨_, rfl⟩
          obtain ⟨lk, hlk3⟩ : ∃ lk, t3.ks.length = lk := ⟨_, rfl⟩
          have HLS := Lib.hid hls
          have HLK := Lib.hid hlk3
          clear ht3 hn3 hls hlk3
          go_upto_region 9 with fail
          refine region_rgw ([(6, (fun u => ∃ A c B d, u = .tuple #[.agg #[.slice A ls c, .slice B lk d], .int .i64 n3] : Value → Prop), (fun u w => TabG (SB p (.slice As k cs)) wr t3 n3 w (u 6) : (Nat → GV) → World → Prop)), (10, (fun u => ∃ g, u = .pointer (some ⟨g, 0, none⟩) : Value → Prop), (fun u w => BoxN 25 2 wr w (u 10) : (Nat → GV) → World → Prop)), (11, (fun u => u = undef : Value → Prop), (fun u w => HasT wr ls lk n3 w (u 6) (u 10) : (Nat → GV) → World → Prop))]) (wr) ([(11, 0, [10])]) (by kernel_rfl) (by kernel_rfl) ?_ ?_ ?_ ?_
          · exact List.forall_mem_cons.2 ⟨List.forall_mem_cons.2 ⟨by kernel_rfl, List.forall_mem_nil _⟩, List.forall_mem_nil _⟩
          · exact List.forall_mem_cons.2 ⟨⟨⟨_, none, 0, none, 0, rfl⟩, fun u v w h ht => by show (fun u w => TabG (SB p (.slice As k cs)) wr t3 n3 w (u 6) : (Nat → GV) → World → Prop) v w; dsimp only; rw [← h 6 (.inl rfl) (by kernel_rfl)]; exact ht, fun u w w2 hx ht => ht.ext hx, List.forall_mem_cons.2 ⟨fun _ hp => by first | (intro u w w2 hap hc ht; (refine ht.far hc ?_; simpa using hap); done) | exact rg_vac hp (by kernel_rfl), List.forall_mem_nil _⟩⟩, List.forall_mem_cons.2 ⟨⟨⟨_, 0, rfl⟩, fun u v w h ht => by show (fun u w => BoxN 25 2 wr w (u 10) : (Nat → GV) → World → Prop) v w; dsimp only; rw [← h 10 (.inl rfl) (by kernel_rfl)]; exact ht, fun u w w2 hx ht => ht.ext hx, List.forall_mem_cons.2 ⟨fun _ hp => by first | (intro u w w2 hap hc ht; (exact ht.chg hc); done) | exact rg_vac hp (by kernel_rfl), List.forall_mem_nil _⟩⟩, List.forall_mem_cons.2 ⟨⟨⟨_, rfl⟩, fun u v w h ht => by show (fun u w => HasT wr ls lk n3 w (u 6) (u 10) : (Nat → GV) → World → Prop) v w; dsimp only; rw [← h 6 (.inr (by kernel_rfl)) (by kernel_rfl), ← h 10 (.inr (by kernel_rfl)) (by kernel_rfl)]; exact ht, fun u w w2 hx ht => ht.ext hx, List.forall_mem_cons.2 ⟨fun hne => absurd rfl hne, List.forall_mem_nil _⟩⟩, List.forall_mem_nil _⟩⟩⟩
          · first | assumption | exact Ext.refl _
          refine rg_pure (v := ?_) rfl (by kernel_rfl) (by kernel_rfl) (fun w hS hN => ?_) ?_
          rotate_left 1
          · obtain ⟨q0, q1⟩ := HBC.out w hS
            clear hN
            go_simp
            refine givesP_mk ?_
            with_reducible rfl
          refine rg_pure (v := ?_) rfl (by kernel_rfl) (by kernel_rfl) (fun w hS hN => ?_) ?_
          rotate_left 1
          · clear hN
            go_simp
            refine givesP_mk ?_
            with_reducible rfl
          refine rg_pure (v := ?_) rfl (by kernel_rfl) (by kernel_rfl) (fun w hS hN => ?_) ?_
          rotate_left 1
          · clear hN
            go_simp
            refine givesP_mk ?_
            with_reducible rfl
          refine rg_pure (v := ?_) rfl (by kernel_rfl) (by kernel_rfl) (fun w hS hN => ?_) ?_
          rotate_left 1
          · clear hN
            go_simp
            refine givesP_mk ?_
            with_reducible rfl
          refine rg_pure (v := ?_) rfl (by kernel_rfl) (by kernel_rfl) (fun w hS hN => ?_) ?_
          rotate_left 1
          · clear hN
            go_simp
            refine givesP_mk ?_
            with_reducible rfl
          refine rg_pure (v := ?_) rfl (by kernel_rfl) (by kernel_rfl) (fun w hS hN => ?_) ?_
          rotate_left 1
          · have e0 := HEC.out w hS
            clear hN
            go_simp
            refine givesP_mk ?_
            with_reducible rfl
          refine rg_mem (fun u => ∃ A c B d, u = .tuple #[.agg #[.slice A ls c, .slice B lk d], .int .i64 n3] : Value → Prop) (fun u w => TabG (SB p (.slice As k cs)) wr t3 n3 w (u 6) : (Nat → GV) → World → Prop) (fun _ => Ext) rfl rfl rfl rfl (by kernel_rfl) (by kernel_rfl) (fun w hS hN R hR => ?_) ?_
          · have HR := Lib.hid hR
            clear hR
            (try clear hN)
            go_simp
            refine givesM_call ((radd_any (.agg #[.slice A1 tq.ss.length k1, .slice B1 tq.ks.length d1]) tq s w (HRK.out.tab.tab.ext hS) (by omega)).mono ?_)
            rintro e w' ⟨v', rfl, htab, hx, hoff⟩
            rw [HADP.out] at htab hoff
            obtain ⟨A, c, B, d, rfl, -, -⟩ := htab.two
            rw [HADP.out, HLS.out, HLK.out]
            refine ⟨_, rfl, HR.out _ _ ⟨_, _, _, _, rfl⟩ ?_ hx⟩
            have hm := TabG.made (r := (t3, n3)) hS HSB.out HRK.out.tab hoff
            rw [HLS.out, HLK.out] at hm
            exact hm
          rintro u6 s6 t6 ⟨A6, c6, B6, d6, rfl⟩
          refine rg_pure (v := ?_) rfl (by kernel_rfl) (by kernel_rfl) (fun w hS hN => ?_) ?_
          rotate_left 1
          · clear hN
            go_simp
            refine givesP_mk ?_
            with_reducible rfl
          refine rg_pure (v := ?_) rfl (by kernel_rfl) (by kernel_rfl) (fun w hS hN => ?_) ?_
          rotate_left 1
          · clear hN
            go_simp
            refine givesP_mk ?_
            with_reducible rfl
          refine rg_pure (v := ?_) rfl (by kernel_rfl) (by kernel_rfl) (fun w hS hN => ?_) ?_
          rotate_left 1
          · clear hN
            go_simp
            refine givesP_mk ?_
            with_reducible rfl
          refine rg_mem (fun u => ∃ g, u = .pointer (some ⟨g, 0, none⟩) : Value → Prop) (fun u w => BoxN 25 2 wr w (u 10) : (Nat → GV) → World → Prop) (fun _ => Ext) rfl rfl rfl rfl (by kernel_rfl) (by kernel_rfl) (fun w hS hN R hR => ?_) ?_
          · have HR := Lib.hid hR
            clear hR
            (try clear hN)
            go_simp
            exact givesM_val (HR.out _ _ ⟨_, rfl⟩ (BoxN.made hS #[.slice none 0 0, .slice none 0 0]) ((Ext.refl w).alloc _))
          rintro u10 s10 t10 ⟨g10, rfl⟩
          refine rg_mem (fun u => u = undef : Value → Prop) (fun u w => HasT wr ls lk n3 w (u 6) (u 10) : (Nat → GV) → World → Prop) (fun u => ChgIn (wr) (0) ([10].map u)) rfl rfl rfl rfl (by kernel_rfl) (by kernel_rfl) (fun w hS hN R hR => ?_) ?_
          · have HR := Lib.hid hR
            clear hR
            have h10 : BoxN 25 2 wr w ⟨.pointer (some ⟨g10, 0, none⟩), s10, t10⟩ := hN.get 10 rfl (by kernel_rfl)
            obtain ⟨g, cz, hcz, hg, hg2, hg3, hg4⟩ := h10
            simp only [Value.pointer.injEq, Option.some.injEq, Addr.mk.injEq, and_true] at hg
            subst hg
            obtain ⟨z0, z1, rfl, y0, y1⟩ := cellsOf2 hcz hg4
            have HG2 := Lib.hid hg2
            have HG3 := Lib.hid hg3
            have HG4 := Lib.hid hg4
            have f0 := frozen_of_row _ _ 0 _ _ hg4
            have f1 := frozen_of_row _ _ 1 _ _ hg4
            clear hg2 hg3 hg4 hcz hN
            (try clear hN)
            go_simp
            refine givesM_skipq (HR.out _ _ rfl ⟨A6, c6, B6, d6, rfl, g10, rfl, HG2.out, set2_at HG4.out _ _⟩ (ChgIn.set2 rfl hS HG2.out HG3.out HG4.out _ _))
          rintro u11 s11 t11 rfl
          refine rg_pure (v := ?_) rfl (by kernel_rfl) (by kernel_rfl) (fun w hS hN => ?_) ?_
          rotate_left 1
          · clear hN
            go_simp
            refine givesP_mk ?_
            with_reducible rfl
          refine rg_done rfl (Nat.le_of_ble_eq_true (by kernel_rfl)) ?_
          intro w8 hS hT
          have h6 : TabG (SB p (.slice As k cs)) wr t3 n3 w8 ⟨.tuple #[.agg #[.slice A6 ls c6, .slice B6 lk d6], .int .i64 n3], s6, t6⟩ := hT (6, ⟨.tuple #[.agg #[.slice A6 ls c6, .slice B6 lk d6], .int .i64 n3], s6, t6⟩) (by simp)
          have h11 : HasT wr ls lk n3 w8 ⟨.tuple #[.agg #[.slice A6 ls c6, .slice B6 lk d6], .int .i64 n3], s6, t6⟩ ⟨.pointer (some ⟨g10, 0, none⟩), s10, t10⟩ := hT (11, ⟨undef, s11, t11⟩) (by simp)
          obtain ⟨Az, cz, Bz, dz, hv, g, hg, hg2, hg3⟩ := h11
          simp only [Value.tuple.injEq, Value.agg.injEq, Value.slice.injEq, Value.pointer.injEq, Option.some.injEq, Addr.mk.injEq, Array.mk.injEq, List.cons.injEq, and_true, true_and] at hv hg
          obtain ⟨⟨rfl, rfl⟩, rfl, rfl⟩ := hv
          subst hg
          have HS8 := Lib.hid hS
          have HQ8 := Lib.hid hg3
          have HT8 := Lib.hid h6
          clear hT hg2 hg3 h6 hS
          obtain ⟨w9, hw9⟩ : ∃ w9, (w8.setCell ⟨w.heap.size, 0, none⟩ (.slice A6 ls c6)).setCell ⟨w.heap.size, 1, none⟩ (.slice B6 lk d6) = w9 := ⟨_, rfl⟩
          have hu9 : Upd p w8 w9 := by rw [← hw9, HP.out]; exact upd2 _ _ _ _
          have hb9 : w9.heap[p]? = some (.cells #[.slice A6 ls c6, .slice B6 lk d6] 25 (0, 0)) := by rw [← hw9, HP.out]; exact set2_at (HS8.out.blk HB.out) _ _
          have hpz : p + 1 < wr.heap.size := by have := blk_lt HRK.out.res; omega
          have hr9 := hu9.blk (HS8.out.blk HRK.out.res) (by omega)
          have hp2 : p + 1 < w2.heap.size := by have := HPS.out; have := HY2.out.size; omega
          have ho9 : OwnF w9 w2.heap.size (.slice As k cs) fs := World.ownsRow.kept (OwnRows.ext HRK.out.own HS8.out) hu9 (by
            cases hv : (Value.slice As k cs).ownBlock with
            | none => exact .inl rfl
            | some z => right; have := (OwnRows.lt HRK.out.own z hv).1; intro he; injection he; omega)
          have ht9 : TabOff (SB p (.slice As k cs)) w9 (.agg #[.slice A6 ls c6, .slice B6 lk d6]) t3 := by
            obtain ⟨v, hv, hto⟩ := HT8.out
            simp only [Value.tuple.injEq, Array.mk.injEq, List.cons.injEq, and_true] at hv
            obtain rfl := hv
            exact (hto.wide (T := SB p (.slice As k cs)) fun b _ hs => .inl hs).but (But.upd hu9 (.inl rfl))
          have el9 : w9.cell? ⟨bf, of + k * 2 + 1, none⟩ = some (.int .i64 ln) := by
            rw [World.cell?_of_block (hu9.block bf (by have := HXW.out.size; have := HS8.out.size; have := HBF.out; omega) (fun e => by injection e with e; have := HBF.out; have := HP.out; omega))]
            exact HEL.out w8 HS8.out
          have hw2r : w2.heap.size ≤ w9.heap.size := by have := hu9.sz; have := HS8.out.size; have := HZZ.out; omega
          obtain ⟨w10, hw10⟩ : ∃ w10, w9.alloc (.cells #[.int .i64 n3, .int .i64 ln] 54) = w10 := ⟨_, rfl⟩
          have hx10 : Ext w9 w10 := by rw [← hw10]; exact (Ext.refl w9).alloc _
          have hone : RowsAt 2 frL w10 (.slice (some ⟨w9.heap.size, 0, none⟩) 1 1) [(n3, ln)] := by rw [← hw10]; exact row_one (f := frL) (n3, ln) 54
          obtain ⟨i0, I0, I1, I2, I3⟩ := info_parts Try.infoFrame
          obtain ⟨v5, w5, hr5, ho5, hg5, hk5⟩ := OwnRows.append2 (P := Try.prog) (e := 54) (m := 2) (f := frL) (xs := fs) (ys := [(n3, ln)]) 46 Try.underlying46 I0 I1 I2 I3 rfl (by decide) frL_len frL_one (OwnRows.ext ho9 hx10) hone (by simp [maxLen]; omega) (by simp; omega) (Nat.le_trans hw2r hx10.size)
          have hlen : (fs ++ [(n3, ln)]).length = k + 1 := by simp [hlk]
          obtain ⟨A5, c5, rfl, hc5⟩ := (OwnRows.rows frL_len ho5).form
          rw [hlen] at hr5 ho5 hc5 hk5
          have hbut : But (fun b => (Value.slice As k cs).ownBlock = some b) w9 w5 := ⟨hg5.os.trans hx10.os, hg5.tape.trans hx10.tape, hg5.output.trans hx10.output, Nat.le_trans hx10.size hg5.size, fun i hi hn => (hg5.block i (Nat.lt_of_lt_of_le hi hx10.size) (fun e => hn e.symm)).trans (hx10.block i hi)⟩
          have hfar : ∀ b, (Value.slice As k cs).ownBlock = some b → p + 1 < b := fun b hb => by have := (OwnRows.lt HRK.out.own b hb).1; omega
          have HRK5 : Hid (RK p w2.heap.size (t3, fs ++ [(n3, ln)]) (.slice A5 (k + 1) c5) (.agg #[.slice A6 ls c6, .slice B6 lk d6]) w5) := Lib.hid (by
            refine ⟨⟨_, _, rfl, hbut.blk hb9 fun e => by have := hfar _ e; omega⟩, hbut.blk hr9 fun e => by have := hfar _ e; omega, ?_, ho5⟩
            refine ((ht9.wide (T := fun b => SB p (.slice As k cs) b ∨ SB p (.slice A5 (k + 1) c5) b) fun b hb hs => ?_).but (hbut.wide fun i _ hi => .inl (.inr (.inr hi)))).wide fun b _ hs => .inr hs
            rcases hs with hs | hs | hs | hs
            · exact hs
            · exact .inl hs
            · exact .inr (.inl hs)
            · rcases hk5 with hk5 | hk5
              · exact .inr (.inr (by rw [← hk5]; exact hs))
              · rw [hk5] at hs; injection hs with hs; have := hx10.size; omega)
          have HX5 : Hid (Ext w w5) := Lib.hid (But.after ((HXW.out.trans HS8.out).upd hu9 (by have := HP.out; omega)) hbut fun i hi => by have := hfar i hi; have := HP.out; omega)
          have HZ5 : Hid (w2.heap.size ≤ w5.heap.size) := Lib.hid (Nat.le_trans hw2r hbut.size)
          have HSN2 : Hid (Tb.adds t (l.take (k + 1)) = (t3, fs ++ [(n3, ln)])) := Lib.hid (by rw [HSN.out]; unfold Tb.addStep; simp only [HADP.out])
          have HR5 := Lib.hid hr5
          have HW9 := Lib.hid hw9
          have HW10 := Lib.hid hw10
          have q0 := blk_cell HQ8.out 0 _ rfl
          have q1 := blk_cell HQ8.out 1 _ rfl
          have f0 : w8.frozen? ⟨w.heap.size, 0, none⟩ = false := by rw [HP.out]; exact frozen_of_row _ _ 0 _ _ (HS8.out.blk HB.out)
          have f1 : w8.frozen? ⟨w.heap.size, 1, none⟩ = false := by rw [HP.out]; exact frozen_of_row _ _ 1 _ _ (HS8.out.blk HB.out)
          obtain ⟨b0, b1⟩ := HBC.out w8 HS8.out
          clear hu9 hb9 hr9 ho9 ht9 hx10 hone I0 I1 I2 I3 hr5 ho5 hg5 hk5 hlen hbut hfar hw9 hw10 hc5
          go_wp2_with (first | rw [HW9.out] | rw [HW10.out] | (at_builtin; refine wpList_append_run rfl _ _ 46 rfl _ _ rfl rfl HR5.out ?_))
          go_roundw
          case rel => exact ⟨k + 1, by omega, by go_num, .agg #[.slice A6 ls c6, .slice B6 lk d6], by rw [HSN2.out]; exact HRK5.out, HX5.out, HZ5.out⟩
          case measure => simp [intOf]; omega
        · obtain rfl : k = l.length := by omega
          have HTL := Lib.hid (HTOP.out rfl)
          have HKN : Hid (tq.ks.length ≤ 10000) := Lib.hid (by
            have h : (Tb.adds t l).1.ks = t.ks := (Tb.adds_ks l (t, [])).1
            rw [HTL.out] at h
            simp only at h
            rw [h]
            exact (Tb.may_iff.1 hm).2.1)
          have HIN : Hid (∀ g ∈ fs, FrIn g) := Lib.hid (by
            have h := Tb.adds_in (t := t) (l := l) (by omega) HFI.out
            rwa [HTL.out] at h)
          have HN := Lib.hid HRK.out.tab
          obtain ⟨svx, kvx, hvx, hso, hno⟩ := HRK.out.tab
          simp only [Value.agg.injEq, Array.mk.injEq, List.cons.injEq, and_true] at hvx
          obtain ⟨rfl, rfl⟩ := hvx
          have HNO := Lib.hid hno
          have HSO := Lib.hid hso
          have HST := Lib.hid (rstack_any (.slice B1 tq.ks.length d1) (.slice As l.length cs) tq.ks fs wr hno.nest (by have := (OwnRows.rows frL_len HRK.out.own); exact this) (by have := HQF.out.ks; omega) (fun x hx => ⟨HQF.out.len x hx, HQF.out.nums x hx⟩) HIN.out)
          have HRS := Lib.hid HRK.out.res
          have b0 : wr.cell? ⟨w.heap.size, 0, none⟩ = some (.slice A1 tq.ss.length k1) := by rw [HP.out]; exact blk_cell HB.out 0 _ rfl
          have b1 : wr.cell? ⟨w.heap.size, 1, none⟩ = some (.slice B1 tq.ks.length d1) := by rw [HP.out]; exact blk_cell HB.out 1 _ rfl
          clear hno hso
          obtain ⟨nI, hnI⟩ : ∃ nI, Tb.idx tq.ks fs = nI := ⟨_, rfl⟩
          rw [hnI] at HST
          have HNI := Lib.hid hnI
          by_cases hin : fs ∈ tq.ks
          · have HRST : Hid (Tb.rstk t l = if tq.may = true then (tq, nI) else (Tb.none, 0)) := Lib.hid (by
              unfold Tb.rstk
              rw [if_pos hm, if_neg he, HTL.out]
              unfold Tb.laid
              simp only
              rw [if_pos hin, hnI])
            have hpos : 0 < nI := by rw [← hnI]; have := Tb.idx_pos.2 hin; omega
            have hn0 : (0 : Int) ≤ nI - 1 := by omega
            have hn1 : nI - 1 + 1 = nI := by omega
            have hn3 : nI ≤ 100000 := by have := Tb.idx_le (l := tq.ks) (x := fs); have := HKN.out; omega
            clear hnI hin
            go_wp2_with fail
            refine HST.out.mono ?_
            rintro e wa ⟨rfl, hxa⟩
            have HXA := Lib.hid hxa
            clear hxa b0 b1
            obtain ⟨bm, hbm⟩ : ∃ bm, (tq : Tb).may = bm := ⟨_, rfl⟩
            have HMY := Lib.hid (rtmay_k (.agg #[.slice A1 tq.ss.length k1, .slice B1 tq.ks.length d1]) tq bm wa hbm (HN.out.tab.ext HXA.out) HQF.out)
            have HTT : Hid (Tb.rstk t l = if bm = true then (tq, nI) else (Tb.none, 0)) := Lib.hid (by rw [HRST.out, hbm])
            have b0 : wa.cell? ⟨w.heap.size, 0, none⟩ = some (.slice A1 tq.ss.length k1) := by rw [HP.out]; exact blk_cell (HXA.out.blk HB.out) 0 _ rfl
            have b1 : wa.cell? ⟨w.heap.size, 1, none⟩ = some (.slice B1 tq.ks.length d1) := by rw [HP.out]; exact blk_cell (HXA.out.blk HB.out) 1 _ rfl
            clear hbm
            go_wp2_with fail
            refine HMY.out.mono ?_
            rintro e wz ⟨rfl, hxz⟩
            have HXZ := Lib.hid ((HXW.out.trans HXA.out).trans hxz)
            have HPZ := Lib.hid (hxz.blk (HXA.out.blk HB.out))
            have HRZ : Hid (wz.heap[w.heap.size + 1]? = some (.cells #[.slice none 0 0, .slice none 0 0] 25 (0, 0))) := Lib.hid (by rw [HP.out]; exact hxz.blk (HXA.out.blk HRS.out))
            have HOZ := Lib.hid ((HN.out.but (But.ext HXA.out)).but (But.ext hxz))
            clear hxz b0 b1
            have b0 : wz.cell? ⟨w.heap.size, 0, none⟩ = some (.slice A1 tq.ss.length k1) := by rw [HP.out]; exact blk_cell HPZ.out 0 _ rfl
            have b1 : wz.cell? ⟨w.heap.size, 1, none⟩ = some (.slice B1 tq.ks.length d1) := by rw [HP.out]; exact blk_cell HPZ.out 1 _ rfl
            have q0 := blk_cell HRZ.out 0 _ rfl
            have q1 := blk_cell HRZ.out 1 _ rfl
            have y0 := frozen_of_row _ _ 0 _ _ HRZ.out
            have y1 := frozen_of_row _ _ 1 _ _ HRZ.out
            cases bm with
            | false =>
              go_wp2
              have hz := set2_at HRZ.out (.slice none 0 0) (.slice none 0 0)
              have t0 := blk_cell hz 0 _ rfl
              have t1 := blk_cell hz 1 _ rfl
              refine bodyPost_ret (v := .tuple #[.agg #[.slice none 0 0, .slice none 0 0], .int .i64 0]) (by simp [results, Try.results14, go_sem, t0, t1, hn1]) rfl ?_
              rw [HTT.out]
              exact HNONE.out _ HXZ.out
            | true =>
              go_wp2
              have hz := set2_at HRZ.out (.slice A1 tq.ss.length k1) (.slice B1 tq.ks.length d1)
              have t0 := blk_cell hz 0 _ rfl
              have t1 := blk_cell hz 1 _ rfl
              have hux := upd2 (w.heap.size + 1) wz (.slice A1 tq.ss.length k1) (.slice B1 tq.ks.length d1)
              have hx := HXZ.out.upd hux (by omega)
              refine bodyPost_ret (v := .tuple #[.agg #[.slice A1 tq.ss.length k1, .slice B1 tq.ks.length d1], .int .i64 (nI)]) (by simp [results, Try.results14, go_sem, t0, t1, hn1]) rfl ?_
              rw [HTT.out]
              exact ⟨_, rfl, (HOZ.out.but (But.upd hux (.inr (.inl (by rw [HP.out]))))).tab, hx⟩
          · have HRST : Hid (Tb.rstk t l = if (⟨tq.ss, tq.ks ++ [fs]⟩ : Tb).may = true then (⟨tq.ss, tq.ks ++ [fs]⟩, (tq.ks.length : Int) + 1) else (Tb.none, 0)) := Lib.hid (by
              unfold Tb.rstk
              rw [if_pos hm, if_neg he, HTL.out]
              unfold Tb.laid
              simp only
              rw [if_neg hin])
            have hk5 : (tq.ks.length : Int) ≤ 10000 := by have := HKN.out; omega
            obtain rfl : nI = 0 := by rw [← hnI]; exact Tb.idx_zero.2 hin
            have HF6 : Hid ((⟨tq.ss, tq.ks ++ [fs]⟩ : Tb).Fine) := Lib.hid ⟨HQF.out.ss, by have := HKN.out; simp; omega, fun x hx => by
              rcases List.mem_append.1 hx with hx | hx
              · exact HQF.out.len x hx
              · rw [List.mem_singleton.1 hx]; omega, fun x hx => by
              rcases List.mem_append.1 hx with hx | hx
              · exact HQF.out.nums x hx
              · rw [List.mem_singleton.1 hx]; exact HIN.out⟩
            clear hnI hin
            go_wp2_with fail
            refine HST.out.mono ?_
            rintro e wa ⟨rfl, hxa⟩
            have HXA := Lib.hid hxa
            clear hxa b0 b1
            obtain ⟨i0, I0, I1, I2, I3⟩ := info_parts Try.infoRow
            have hpa : p + 1 < wa.heap.size := by have := blk_lt HRS.out; have := HXA.out.size; omega
            obtain ⟨v3, w3, A5, c5, w5, hr3, hr5, hx3, hx5, hn5⟩ := nest_snoc (P := Try.prog) (e := 46) (m := 2) (f := frL) (S := fun b => b = p ∨ b = p + 1) (u := .slice As l.length cs) (xs := fs) 23 Try.underlying23 I0 I1 I2 I3 rfl rfl (NestOff.but ((HNO.out).wide2 fun b _ hb => by rcases hb with hb | hb; exact .inl hb; exact .inr (.inl hb)) (But.ext HXA.out)) (by
              obtain ⟨A', c', hv, hcv, hA⟩ := OwnRows.rowsIn frL_len HRK.out.own
              have hr := (OwnRows.rowsIn frL_len HRK.out.own).off (S := fun b => b = p ∨ b = p + 1) fun b h1 _ hs => by have := HPS.out; have := HY2.out.size; omega
              exact hr.but (But.ext HXA.out)) (fun b hb => by omega) (by have := HKN.out; omega) (by unfold maxLen; have := HKN.out; omega)
            obtain ⟨w2', hw2'⟩ : ∃ w2', wa.alloc (.cells #[] 46) = w2' := ⟨_, rfl⟩
            obtain ⟨w4, hw4⟩ : ∃ w4, w3.alloc (.cells #[.slice As l.length cs] 46) = w4 := ⟨_, rfl⟩
            obtain ⟨w6, hw6⟩ : ∃ w6, w5.setCell ⟨w.heap.size, 1, none⟩ (.slice A5 (tq.ks.length + 1) c5) = w6 := ⟨_, rfl⟩
            have hu6 : Upd p w5 w6 := by rw [← hw6, HP.out]; exact (Upd.refl p w5).set 1 _
            have HB6 : Hid (w6.heap[p]? = some (.cells #[.slice A1 tq.ss.length k1, .slice A5 (tq.ks.length + 1) c5] 25 (0, 0))) := Lib.hid (by rw [← hw6, HP.out]; exact blk_set ((HXA.out.trans hx5).blk HB.out) 1 _)
            have HR6 := Lib.hid (hu6.blk ((HXA.out.trans hx5).blk HRS.out) (by omega))
            have HX6 : Hid (Ext w w6) := Lib.hid ((HXW.out.trans (HXA.out.trans hx5)).upd hu6 (by have := HP.out; omega))
            have HO6 : Hid (TabOff (fun b => b = p ∨ b = p + 1 ∨ False) w6 (.agg #[.slice A1 tq.ss.length k1, .slice A5 (tq.ks.length + 1) c5]) ⟨tq.ss, tq.ks ++ [fs]⟩) := Lib.hid (by
              refine ⟨_, _, rfl, ?_, ?_⟩
              · exact ((HSO.out.wide (T := fun b => b = p ∨ b = p + 1 ∨ False) fun b _ hs => by
                  rcases hs with hs | hs | hs
                  · exact .inl hs
                  · exact .inr (.inl hs)
                  · exact hs.elim).but (But.ext (HXA.out.trans hx5))).but (But.upd hu6 (.inl rfl))
              · exact (hn5.wide2 fun b _ hs => by
                  rcases hs with hs | hs | hs
                  · exact .inl hs
                  · exact .inr hs
                  · exact hs.elim).but (But.upd hu6 (.inl rfl)))
            have HR3 := Lib.hid hr3
            have HR5 := Lib.hid hr5
            have HW2 := Lib.hid hw2'
            have HW4 := Lib.hid hw4
            have HW6 := Lib.hid hw6
            rw [hw2'] at HR3
            rw [hw4] at HR5
            have a1 : w2'.cell? ⟨w.heap.size, 1, none⟩ = some (.slice B1 tq.ks.length d1) := by rw [← hw2', HP.out]; exact blk_cell (blk_alloc (HXA.out.blk HB.out) _) 1 _ rfl
            have a2 : w5.cell? ⟨w.heap.size, 1, none⟩ = some (.slice B1 tq.ks.length d1) := by rw [HP.out]; exact blk_cell ((HXA.out.trans hx5).blk HB.out) 1 _ rfl
            have a3 : w5.frozen? ⟨w.heap.size, 1, none⟩ = false := by rw [HP.out]; exact frozen_of_row _ _ 1 _ _ ((HXA.out.trans hx5).blk HB.out)
            have a0 : wa.cell? ⟨w.heap.size, 1, none⟩ = some (.slice B1 tq.ks.length d1) := by rw [HP.out]; exact blk_cell (HXA.out.blk HB.out) 1 _ rfl
            clear hr3 hr5 hx3 hx5 hn5 hw2' hw4 hw6 hu6 I0 I1 I2 I3
            obtain ⟨bm, hbm⟩ : ∃ bm, (⟨tq.ss, tq.ks ++ [fs]⟩ : Tb).may = bm := ⟨_, rfl⟩
            have HMY := Lib.hid (rtmay_k (.agg #[.slice A1 tq.ss.length k1, .slice A5 (tq.ks.length + 1) c5]) ⟨tq.ss, tq.ks ++ [fs]⟩ bm w6 hbm HO6.out.tab HF6.out)
            have HTT : Hid (Tb.rstk t l = if bm = true then (⟨tq.ss, tq.ks ++ [fs]⟩, (tq.ks.length : Int) + 1) else (Tb.none, 0)) := Lib.hid (by rw [HRST.out, hbm])
            have b0 : w6.cell? ⟨w.heap.size, 0, none⟩ = some (.slice A1 tq.ss.length k1) := by rw [HP.out]; exact blk_cell HB6.out 0 _ rfl
            have b1 : w6.cell? ⟨w.heap.size, 1, none⟩ = some (.slice A5 (tq.ks.length + 1) c5) := by rw [HP.out]; exact blk_cell HB6.out 1 _ rfl
            clear hbm
            go_wp2_with (first | rw [HW2.out] | rw [HW4.out] | rw [HW6.out] | (at_builtin; refine wpList_append_run rfl _ _ 23 rfl _ _ rfl rfl HR3.out ?_) | (at_builtin; refine wpList_append_run rfl _ _ 23 rfl _ _ rfl rfl HR5.out ?_))
            refine HMY.out.mono ?_
            rintro e wz ⟨rfl, hxz⟩
            have HXZ := Lib.hid (HX6.out.trans hxz)
            have HPZ := Lib.hid (hxz.blk HB6.out)
            have HRZ : Hid (wz.heap[w.heap.size + 1]? = some (.cells #[.slice none 0 0, .slice none 0 0] 25 (0, 0))) := Lib.hid (by rw [HP.out]; exact hxz.blk HR6.out)
            have HOZ := Lib.hid ((HO6.out).but (But.ext hxz))
            clear hxz b0 b1
            have b0 : wz.cell? ⟨w.heap.size, 0, none⟩ = some (.slice A1 tq.ss.length k1) := by rw [HP.out]; exact blk_cell HPZ.out 0 _ rfl
            have b1 : wz.cell? ⟨w.heap.size, 1, none⟩ = some (.slice A5 (tq.ks.length + 1) c5) := by rw [HP.out]; exact blk_cell HPZ.out 1 _ rfl
            have q0 := blk_cell HRZ.out 0 _ rfl
            have q1 := blk_cell HRZ.out 1 _ rfl
            have y0 := frozen_of_row _ _ 0 _ _ HRZ.out
            have y1 := frozen_of_row _ _ 1 _ _ HRZ.out
            cases bm with
            | false =>
              go_wp2
              have hz := set2_at HRZ.out (.slice none 0 0) (.slice none 0 0)
              have t0 := blk_cell hz 0 _ rfl
              have t1 := blk_cell hz 1 _ rfl
              refine bodyPost_ret (v := .tuple #[.agg #[.slice none 0 0, .slice none 0 0], .int .i64 0]) (by simp [results, Try.results14, go_sem, t0, t1]) rfl ?_
              rw [HTT.out]
              exact HNONE.out _ HXZ.out
            | true =>
              go_wp2
              have hz := set2_at HRZ.out (.slice A1 tq.ss.length k1) (.slice A5 (tq.ks.length + 1) c5)
              have t0 := blk_cell hz 0 _ rfl
              have t1 := blk_cell hz 1 _ rfl
              have hux := upd2 (w.heap.size + 1) wz (.slice A1 tq.ss.length k1) (.slice A5 (tq.ks.length + 1) c5)
              have hx := HXZ.out.upd hux (by omega)
              refine bodyPost_ret (v := .tuple #[.agg #[.slice A1 tq.ss.length k1, .slice A5 (tq.ks.length + 1) c5], .int .i64 ((tq.ks.length : Int) + 1)]) (by simp [results, Try.results14, go_sem, t0, t1]) rfl ?_
              rw [HTT.out]
              exact ⟨_, rfl, (HOZ.out.but (But.upd hux (.inr (.inl (by rw [HP.out]))))).tab, hx⟩
theorem rstr_k (v : Value) (t : Tb) (s : ByteArray) (t' : Tb) (n : Int) (w : World) (hr : t.string s = (t', n)) (h : TabAt w v t) (hf : t.Fine) (hl : t.ss.length ≤ 90000) : Calls Try.prog 12 #[v, .string s] w (TabQ t' n w) := (rstr_any v t s w h hf hl).mono fun e w' h => by
  rw [hr] at h
  obtain ⟨v, rfl, h1, h2⟩ := h
  obtain ⟨A, c, B, d, rfl, h3, h4⟩ := h1.two
  exact ⟨A, _, c, B, _, d, rfl, rfl, rfl, h1, h2⟩
theorem rstk_k (v u : Value) (t : Tb) (l : List (ByteArray × Int)) (t' : Tb) (n : Int) (w : World) (hr : t.stk l = (t', n)) (h : TabAt w v t) (hf : t.Fine) (hl : t.ss.length + l.length ≤ 90000) (hfr : RowsAt 2 fcL w u l) (hfi : ∀ f ∈ l, FcIn f) : Calls Try.prog 14 #[v, u] w (TabQ t' n w) := (rstk_any v u t l w h hf hl hfr hfi).mono fun e w' h => by
  rw [Tb.rstk_eq, hr] at h
  obtain ⟨v, rfl, h1, h2⟩ := h
  obtain ⟨A, c, B, d, rfl, h3, h4⟩ := h1.two
  exact ⟨A, _, c, B, _, d, rfl, rfl, rfl, h1, h2⟩
theorem rname_k (v : Value) (t : Tb) (id : Int) (nm : ByteArray) (b : Bool) (w : World) (hr : t.name id = (nm, b)) (h : TabAt w v t) (hf : t.Fine) : Calls Try.prog 16 #[v, .int .i64 id] w fun e w' => e = .returned (.tuple #[.string nm, .bool b]) ∧ Ext w w' := (rname_any v t id w h hf).mono fun e w' h => by rw [hr] at h; exact h
theorem rframes_k (v : Value) (t : Tb) (id : Int) (l : List (ByteArray × Int)) (b : Bool) (w : World) (hr : t.frames id = (l, b)) (h : TabAt w v t) (hf : t.Fine) : Calls Try.prog 18 #[v, .int .i64 id] w fun e w' => ∃ A c, e = .returned (.tuple #[.slice A l.length c, .bool b]) ∧ RowsAt 2 fcL w' (.slice A l.length c) l ∧ Ext w w' := (rframes_any v t id w h hf).mono fun e w' h => by
  rw [hr] at h
  obtain ⟨v, rfl, h1, h2⟩ := h
  obtain ⟨A, c, rfl, hc⟩ := h1.form
  exact ⟨A, c, rfl, h1, h2⟩
theorem Tb.none_fine : Tb.none.Fine := ⟨by decide, by decide, by simp [Tb.none], by simp [Tb.none]⟩
theorem Tb.string_fine {t : Tb} {s : ByteArray} (hf : t.Fine) : (t.string s).1.Fine := by
  rw [← Tb.add_string t s]
  split
  · split
    · rename_i h; exact Tb.fine_may h
    · exact Tb.none_fine
  · exact Tb.none_fine
theorem Tb.stk_fine {t : Tb} {l : List (ByteArray × Int)} (hf : t.Fine) : (t.stk l).1.Fine := by
  rw [← Tb.rstk_eq]
  unfold Tb.rstk
  split
  · split
    · exact hf
    · split
      · rename_i h; exact Tb.fine_may h
      · exact Tb.none_fine
  · exact Tb.none_fine
theorem Tb.frames_fc {t : Tb} {id : Int} (hf : t.Fine) : (∀ f ∈ (t.frames id).1, FcIn f) ∧ (t.frames id).1.length ≤ 100000 := by
  by_cases hc : 0 ≤ id ∧ id ≤ t.ks.length ∧ t.may = true
  · obtain ⟨k, rfl⟩ : ∃ k : Nat, id = k := ⟨id.toNat, by omega⟩
    have HFI := Tb.frames_in hc.2.2 k (by omega)
    refine ⟨fun f hf' => ?_, ?_⟩
    · have := HFI f hf'
      refine ⟨by have := this.1; unfold maxLen; omega, ?_⟩
      unfold i64in
      omega
    · unfold Tb.frames
      rw [if_pos hc]
      by_cases h0 : (k : Int) = 0
      · rw [if_pos h0]; simp
      · rw [if_neg h0]
        simp only [Tb.told_len]
        rw [List.getD]
        cases hg : t.ks[((k : Int) - 1).toNat]? with
        | none => simp
        | some l => have := (hf.len l (List.mem_of_getElem? hg)); simpa using this
  · unfold Tb.frames
    rw [if_neg (by simpa using hc)]
    simp
set_option maxRecDepth 100000 in
set_option maxHeartbeats 16000000 in
theorem walk_InternTells (v : Value) (t : Tb) (u : Value) (s : ByteArray) (l : List (ByteArray × Int)) (n : Int) (w : World) (ht : TabAt w v t) (hi : TbIn t) (ha : AskAt w u s l n) (hai : AskIn s l n) :
    Calls Try.prog 3 #[v, u] w fun e w' => e = .returned (.bool true) ∧ Ext w w' := by
  obtain ⟨A, c, B, d, rfl, h1, h2⟩ := ht.two
  obtain ⟨C, q, rfl, hl⟩ := ha
  generalize ha : t.ss.length = a at *
  generalize hb : t.ks.length = b at *
  obtain ⟨w0, hw⟩ : ∃ w0, (w.alloc (.cells #[.slice A a c, .slice B b d] 25)).alloc (.cells #[.string s, .slice C l.length q, .int .i64 n] 28) = w0 := ⟨_, rfl⟩
  obtain ⟨p, hp⟩ : ∃ p, w.heap.size = p := ⟨_, rfl⟩
  have HXW : Hid (Ext w w0) := Lib.hid (by rw [← hw]; exact ((Ext.refl w).alloc _).alloc _)
  have HBT : Hid (w0.heap[p]? = some (.cells #[.slice A a c, .slice B b d] 25 (0, 0))) := Lib.hid (by rw [← hw, ← hp]; exact blk_alloc (blk_new w _) _)
  have HBX : Hid (w0.heap[p + 1]? = some (.cells #[.string s, .slice C l.length q, .int .i64 n] 28 (0, 0))) := Lib.hid (by
    rw [← hw]
    have := blk_new (w.alloc (.cells #[.slice A a c, .slice B b d] 25)) (.cells #[.string s, .slice C l.length q, .int .i64 n] 28)
    rw [show (w.alloc (.cells #[.slice A a c, .slice B b d] 25)).heap.size = p + 1 by simp [hp]] at this
    exact this)
  have HC0 : Hid (∀ w', Ext w0 w' → w'.cell? ⟨w.heap.size, 0, none⟩ = some (.slice A a c) ∧ w'.cell? ⟨w.heap.size, 1, none⟩ = some (.slice B b d) ∧ w'.cell? ⟨w.heap.size + 1, 0, none⟩ = some (.string s) ∧ w'.cell? ⟨w.heap.size + 1, 1, none⟩ = some (.slice C l.length q) ∧ w'.cell? ⟨w.heap.size + 1, 2, none⟩ = some (.int .i64 n)) := Lib.hid fun w' hx => by
    rw [hp]
    exact ⟨blk_cell (hx.blk HBT.out) 0 _ rfl, blk_cell (hx.blk HBT.out) 1 _ rfl, blk_cell (hx.blk HBX.out) 0 _ rfl, blk_cell (hx.blk HBX.out) 1 _ rfl, blk_cell (hx.blk HBX.out) 2 _ rfl⟩
  have HT := Lib.hid (ht.ext HXW.out)
  have HL := Lib.hid (hl.ext HXW.out)
  have HTI := Lib.hid hi
  have HAI := Lib.hid hai
  have HU0 := Lib.hid hw
  have HAL := Lib.hid ha
  have HBL := Lib.hid hb
  clear ht hi hai hl h1 h2 hw hp ha hb
  go_enter Try.func3, Try.ntmps3
  have HX0 : Hid (Ext w0 w0) := Lib.hid (Ext.refl _)
  obtain ⟨t0, t1, x0, x1, x2⟩ := HC0.out w0 (Ext.refl _)
  cases h1 : t.small with
  | false =>
    go_wp2_with (rw [HU0.out])
    refine (rsmall_k _ t _ _ h1 (HT.out.ext HX0.out) HTI.out).mono ?_
    rintro e w1 ⟨rfl, hx1⟩
    have HX1 : Hid (Ext w0 w1) := Lib.hid (HX0.out.trans hx1)
    clear hx1 t0 t1 x0 x1 x2
    obtain ⟨t0, t1, x0, x1, x2⟩ := HC0.out w1 HX1.out
    go_wp2_with fail
    refine (ifixed_yes _).mono ?_
    rintro e w2 ⟨rfl, hx2⟩
    go_wp2
    go_ret
    exact ⟨rfl, HXW.out.trans (HX1.out.trans hx2)⟩
  | true =>
    go_wp2_with (rw [HU0.out])
    refine (rsmall_k _ t _ _ h1 (HT.out.ext HX0.out) HTI.out).mono ?_
    rintro e w1 ⟨rfl, hx1⟩
    have HX1 : Hid (Ext w0 w1) := Lib.hid (HX0.out.trans hx1)
    clear hx1 t0 t1 x0 x1 x2
    obtain ⟨t0, t1, x0, x1, x2⟩ := HC0.out w1 HX1.out
    have HFN := Lib.hid (Tb.fine_of HTI.out h1)
    cases h3 : Tb.few l with
    | false =>
      go_wp2_with fail
      refine (rfew_k _ l _ _ h3 (HL.out.ext HX1.out) HAI.out.len HAI.out.frames).mono ?_
      rintro e w2 ⟨rfl, hx2⟩
      have HX2 : Hid (Ext w0 w2) := Lib.hid (HX1.out.trans hx2)
      clear hx2 t0 t1 x0 x1 x2
      obtain ⟨t0, t1, x0, x1, x2⟩ := HC0.out w2 HX2.out
      go_wp2_with fail
      refine (ifixed_yes _).mono ?_
      rintro e w3 ⟨rfl, hx3⟩
      go_wp2
      go_ret
      exact ⟨rfl, HXW.out.trans (HX2.out.trans hx3)⟩
    | true =>
      go_wp2_with fail
      refine (rfew_k _ l _ _ h3 (HL.out.ext HX1.out) HAI.out.len HAI.out.frames).mono ?_
      rintro e w2 ⟨rfl, hx2⟩
      have HX2 : Hid (Ext w0 w2) := Lib.hid (HX1.out.trans hx2)
      clear hx2 t0 t1 x0 x1 x2
      obtain ⟨t0, t1, x0, x1, x2⟩ := HC0.out w2 HX2.out
      by_cases g5 : 1100 < s.size
      · have g5i : (1100 : Int) < ((s.size : Nat) : Int) := by omega
        go_wp2_with fail
        refine (ifixed_yes _).mono ?_
        rintro e w3 ⟨rfl, hx3⟩
        go_wp2
        go_ret
        exact ⟨rfl, HXW.out.trans (HX2.out.trans hx3)⟩
      have g5i : ¬ (1100 : Int) < ((s.size : Nat) : Int) := by omega
      have HSM := Lib.hid (Tb.small_iff.1 h1)
      have HFL := Lib.hid (Tb.few_iff.1 h3)
      have HLS : Hid (t.ss.length ≤ 100000 ∧ t.ks.length ≤ 100000 ∧ t.ss.length + l.length ≤ 90000 ∧ l.length ≤ 100000) := Lib.hid (by have := HSM.out.2.2; have := HFL.out.2; omega)
      obtain ⟨a1, n1, hst⟩ : ∃ a1 n1, t.string s = (a1, n1) := ⟨_, _, rfl⟩
      obtain ⟨c1, p1, hsk⟩ : ∃ c1 p1, t.stk l = (c1, p1) := ⟨_, _, rfl⟩
      obtain ⟨nm, bo, hnm⟩ : ∃ nm bo, t.name n = (nm, bo) := ⟨_, _, rfl⟩
      obtain ⟨fl, fb, hfl⟩ : ∃ fl fb, t.frames n = (fl, fb) := ⟨_, _, rfl⟩
      obtain ⟨bm, hbm⟩ : ∃ bm, t.may = bm := ⟨_, rfl⟩
      have HA1 : Hid a1.Fine := Lib.hid (by have := Tb.string_fine (s := s) HFN.out; rwa [hst] at this)
      have HC1 : Hid c1.Fine := Lib.hid (by have := Tb.stk_fine (l := l) HFN.out; rwa [hsk] at this)
      have HFC : Hid ((∀ f ∈ fl, FcIn f) ∧ fl.length ≤ 100000) := Lib.hid (by have := Tb.frames_fc (id := n) HFN.out; rwa [hfl] at this)
      have HST := Lib.hid hst
      have HSK := Lib.hid hsk
      have HNM := Lib.hid hnm
      have HFRM := Lib.hid hfl
      have HBM := Lib.hid hbm
      clear hst hsk hnm hfl hbm
      go_wp2_with fail
      refine (istr_k _ t s a1 n1 _ HST.out (HT.out.ext HX2.out) HLS.out.1 HLS.out.2.1 HAI.out.text).mono ?_
      rintro e v3 ⟨A3, k3, c3, B3, m3, d3, rfl, hk3, hm3, ht3, hx3⟩
      obtain ⟨w3, hu3⟩ : ∃ w3, v3.alloc (.cells #[.slice A3 k3 c3, .slice B3 m3 d3] 25) = w3 := ⟨_, rfl⟩
      obtain ⟨p3, hp3⟩ : ∃ p3, v3.heap.size = p3 := ⟨_, rfl⟩
      skip
      have HR3 : Hid (w3.heap[p3]? = some (.cells #[.slice A3 k3 c3, .slice B3 m3 d3] 25 (0, 0))) := Lib.hid (by rw [← hu3, ← hp3]; exact blk_new v3 _)
      have HY3 : Hid (Ext w2 w3) := Lib.hid (by rw [← hu3]; exact hx3.alloc _)
      have HX3 : Hid (Ext w0 w3) := Lib.hid (HX2.out.trans HY3.out)
      have HT3 := Lib.hid (show TabAt w3 (.agg #[.slice A3 k3 c3, .slice B3 m3 d3]) _ from by rw [← hu3]; exact ht3.ext ((Ext.refl v3).alloc _))
      have HU3 := Lib.hid hu3
      have HP3 := Lib.hid hp3
      skip
      have HK3 := Lib.hid hm3
      skip
      clear hx3 hu3 hp3 hk3 hm3 ht3 t0 t1 x0 x1 x2
      obtain ⟨t0, t1, x0, x1, x2⟩ := HC0.out w3 HX3.out
      have r3 : w3.cell? ⟨v3.heap.size, 0, none⟩ = some (.slice A3 k3 c3) := by rw [HP3.out]; exact blk_cell HR3.out 0 _ rfl
      have z3 : w3.cell? ⟨v3.heap.size, 1, none⟩ = some (.slice B3 m3 d3) := by rw [HP3.out]; exact blk_cell HR3.out 1 _ rfl
      go_wp2_with (rw [HU3.out])
      refine (rstr_k _ t s a1 n1 _ HST.out (HT.out.ext HX3.out) HFN.out (by have := HLS.out; omega)).mono ?_
      rintro e v4 ⟨A4, k4, c4, B4, m4, d4, rfl, hk4, hm4, ht4, hx4⟩
      obtain ⟨w4, hu4⟩ : ∃ w4, v4.alloc (.cells #[.slice A4 k4 c4, .slice B4 m4 d4] 25) = w4 := ⟨_, rfl⟩
      obtain ⟨p4, hp4⟩ : ∃ p4, v4.heap.size = p4 := ⟨_, rfl⟩
      skip
      have HR4 : Hid (w4.heap[p4]? = some (.cells #[.slice A4 k4 c4, .slice B4 m4 d4] 25 (0, 0))) := Lib.hid (by rw [← hu4, ← hp4]; exact blk_new v4 _)
      have HY4 : Hid (Ext w3 w4) := Lib.hid (by rw [← hu4]; exact hx4.alloc _)
      have HX4 : Hid (Ext w0 w4) := Lib.hid (HX3.out.trans HY4.out)
      have HT4 := Lib.hid (show TabAt w4 (.agg #[.slice A4 k4 c4, .slice B4 m4 d4]) _ from by rw [← hu4]; exact ht4.ext ((Ext.refl v4).alloc _))
      have HU4 := Lib.hid hu4
      have HP4 := Lib.hid hp4
      skip
      have HK4 := Lib.hid hm4
      skip
      clear hx4 hu4 hp4 hk4 hm4 ht4 t0 t1 x0 x1 x2
      obtain ⟨t0, t1, x0, x1, x2⟩ := HC0.out w4 HX4.out
      have r4 : w4.cell? ⟨v4.heap.size, 0, none⟩ = some (.slice A4 k4 c4) := by rw [HP4.out]; exact blk_cell HR4.out 0 _ rfl
      have z4 : w4.cell? ⟨v4.heap.size, 1, none⟩ = some (.slice B4 m4 d4) := by rw [HP4.out]; exact blk_cell HR4.out 1 _ rfl
      go_wp2_with (rw [HU4.out])
      refine (istk_k _ _ t l c1 p1 _ HSK.out (HT.out.ext HX4.out) (HL.out.ext HX4.out) HLS.out.1 HLS.out.2.1 HLS.out.2.2.2 (Tb.few_sz h3)).mono ?_
      rintro e v5 ⟨A5, k5, c5, B5, m5, d5, rfl, hk5, hm5, ht5, hx5⟩
      obtain ⟨w5, hu5⟩ : ∃ w5, v5.alloc (.cells #[.slice A5 k5 c5, .slice B5 m5 d5] 25) = w5 := ⟨_, rfl⟩
      obtain ⟨p5, hp5⟩ : ∃ p5, v5.heap.size = p5 := ⟨_, rfl⟩
      skip
      have HR5 : Hid (w5.heap[p5]? = some (.cells #[.slice A5 k5 c5, .slice B5 m5 d5] 25 (0, 0))) := Lib.hid (by rw [← hu5, ← hp5]; exact blk_new v5 _)
      have HY5 : Hid (Ext w4 w5) := Lib.hid (by rw [← hu5]; exact hx5.alloc _)
      have HX5 : Hid (Ext w0 w5) := Lib.hid (HX4.out.trans HY5.out)
      have HT5 := Lib.hid (show TabAt w5 (.agg #[.slice A5 k5 c5, .slice B5 m5 d5]) _ from by rw [← hu5]; exact ht5.ext ((Ext.refl v5).alloc _))
      have HU5 := Lib.hid hu5
      have HP5 := Lib.hid hp5
      skip
      have HK5 := Lib.hid hm5
      skip
      clear hx5 hu5 hp5 hk5 hm5 ht5 t0 t1 x0 x1 x2
      obtain ⟨t0, t1, x0, x1, x2⟩ := HC0.out w5 HX5.out
      have r5 : w5.cell? ⟨v5.heap.size, 0, none⟩ = some (.slice A5 k5 c5) := by rw [HP5.out]; exact blk_cell HR5.out 0 _ rfl
      have z5 : w5.cell? ⟨v5.heap.size, 1, none⟩ = some (.slice B5 m5 d5) := by rw [HP5.out]; exact blk_cell HR5.out 1 _ rfl
      go_wp2_with (rw [HU5.out])
      refine (rstk_k _ _ t l c1 p1 _ HSK.out (HT.out.ext HX5.out) HFN.out HLS.out.2.2.1 (HL.out.ext HX5.out) HAI.out.frames).mono ?_
      rintro e v6 ⟨A6, k6, c6, B6, m6, d6, rfl, hk6, hm6, ht6, hx6⟩
      obtain ⟨w6, hu6⟩ : ∃ w6, v6.alloc (.cells #[.slice A6 k6 c6, .slice B6 m6 d6] 25) = w6 := ⟨_, rfl⟩
      obtain ⟨p6, hp6⟩ : ∃ p6, v6.heap.size = p6 := ⟨_, rfl⟩
      skip
      have HR6 : Hid (w6.heap[p6]? = some (.cells #[.slice A6 k6 c6, .slice B6 m6 d6] 25 (0, 0))) := Lib.hid (by rw [← hu6, ← hp6]; exact blk_new v6 _)
      have HY6 : Hid (Ext w5 w6) := Lib.hid (by rw [← hu6]; exact hx6.alloc _)
      have HX6 : Hid (Ext w0 w6) := Lib.hid (HX5.out.trans HY6.out)
      have HT6 := Lib.hid (show TabAt w6 (.agg #[.slice A6 k6 c6, .slice B6 m6 d6]) _ from by rw [← hu6]; exact ht6.ext ((Ext.refl v6).alloc _))
      have HU6 := Lib.hid hu6
      have HP6 := Lib.hid hp6
      skip
      have HK6 := Lib.hid hm6
      skip
      clear hx6 hu6 hp6 hk6 hm6 ht6 t0 t1 x0 x1 x2
      obtain ⟨t0, t1, x0, x1, x2⟩ := HC0.out w6 HX6.out
      have r6 : w6.cell? ⟨v6.heap.size, 0, none⟩ = some (.slice A6 k6 c6) := by rw [HP6.out]; exact blk_cell HR6.out 0 _ rfl
      have z6 : w6.cell? ⟨v6.heap.size, 1, none⟩ = some (.slice B6 m6 d6) := by rw [HP6.out]; exact blk_cell HR6.out 1 _ rfl
      clear r6 z6
      go_wp2_with (rw [HU6.out])
      refine (iname_k _ t n nm bo _ HNM.out (HT.out.ext HX6.out) HLS.out.1 HLS.out.2.1).mono ?_
      rintro e w7 ⟨rfl, hx7⟩
      have HY7 := Lib.hid hx7
      have HX7 : Hid (Ext w0 w7) := Lib.hid (HX6.out.trans hx7)
      clear hx7 t0 t1 x0 x1 x2
      obtain ⟨t0, t1, x0, x1, x2⟩ := HC0.out w7 HX7.out
      go_wp2_with fail
      refine (rname_k _ t n nm bo _ HNM.out (HT.out.ext HX7.out) HFN.out).mono ?_
      rintro e w8 ⟨rfl, hx8⟩
      have HY8 := Lib.hid hx8
      have HX8 : Hid (Ext w0 w8) := Lib.hid (HX7.out.trans hx8)
      clear hx8 t0 t1 x0 x1 x2
      obtain ⟨t0, t1, x0, x1, x2⟩ := HC0.out w8 HX8.out
      go_wp2_with fail
      refine (iframes_k _ t n fl fb _ HFRM.out (HT.out.ext HX8.out) HLS.out.1 HLS.out.2.1).mono ?_
      rintro e w9 ⟨A9, c9, rfl, hr9, hx9⟩
      have HY9 := Lib.hid hx9
      have HX9 : Hid (Ext w0 w9) := Lib.hid (HX8.out.trans hx9)
      clear hx9 t0 t1 x0 x1 x2
      obtain ⟨t0, t1, x0, x1, x2⟩ := HC0.out w9 HX9.out
      have HR9 := Lib.hid hr9
      clear hr9
      go_wp2_with fail
      refine (rframes_k _ t n fl fb _ HFRM.out (HT.out.ext HX9.out) HFN.out).mono ?_
      rintro e w10 ⟨A10, c10, rfl, hr10, hx10⟩
      have HY10 := Lib.hid hx10
      have HX10 : Hid (Ext w0 w10) := Lib.hid (HX9.out.trans hx10)
      clear hx10 t0 t1 x0 x1 x2
      obtain ⟨t0, t1, x0, x1, x2⟩ := HC0.out w10 HX10.out
      have HR10 := Lib.hid hr10
      clear hr10 t0 t1 x0 x1 x2
      have HE3_10 : Hid (Ext w3 w10) := Lib.hid ((((((((((((HY4.out).trans HY5.out)).trans HY6.out)).trans HY7.out)).trans HY8.out)).trans HY9.out)).trans HY10.out)
      have HCB3 : Hid (∀ w', Ext w10 w' → w'.cell? ⟨v3.heap.size, 0, none⟩ = some (.slice A3 k3 c3) ∧ w'.cell? ⟨v3.heap.size, 1, none⟩ = some (.slice B3 m3 d3)) := Lib.hid fun w' hx => by
        rw [HP3.out]
        exact ⟨blk_cell ((HE3_10.out.trans hx).blk HR3.out) 0 _ rfl, blk_cell ((HE3_10.out.trans hx).blk HR3.out) 1 _ rfl⟩
      have HE4_10 : Hid (Ext w4 w10) := Lib.hid ((((((((((HY5.out).trans HY6.out)).trans HY7.out)).trans HY8.out)).trans HY9.out)).trans HY10.out)
      have HCB4 : Hid (∀ w', Ext w10 w' → w'.cell? ⟨v4.heap.size, 0, none⟩ = some (.slice A4 k4 c4) ∧ w'.cell? ⟨v4.heap.size, 1, none⟩ = some (.slice B4 m4 d4)) := Lib.hid fun w' hx => by
        rw [HP4.out]
        exact ⟨blk_cell ((HE4_10.out.trans hx).blk HR4.out) 0 _ rfl, blk_cell ((HE4_10.out.trans hx).blk HR4.out) 1 _ rfl⟩
      have HE5_10 : Hid (Ext w5 w10) := Lib.hid ((((((((HY6.out).trans HY7.out)).trans HY8.out)).trans HY9.out)).trans HY10.out)
      have HCB5 : Hid (∀ w', Ext w10 w' → w'.cell? ⟨v5.heap.size, 0, none⟩ = some (.slice A5 k5 c5) ∧ w'.cell? ⟨v5.heap.size, 1, none⟩ = some (.slice B5 m5 d5)) := Lib.hid fun w' hx => by
        rw [HP5.out]
        exact ⟨blk_cell ((HE5_10.out.trans hx).blk HR5.out) 0 _ rfl, blk_cell ((HE5_10.out.trans hx).blk HR5.out) 1 _ rfl⟩
      have HE6_10 : Hid (Ext w6 w10) := Lib.hid ((((((HY7.out).trans HY8.out)).trans HY9.out)).trans HY10.out)
      have HCB6 : Hid (∀ w', Ext w10 w' → w'.cell? ⟨v6.heap.size, 0, none⟩ = some (.slice A6 k6 c6) ∧ w'.cell? ⟨v6.heap.size, 1, none⟩ = some (.slice B6 m6 d6)) := Lib.hid fun w' hx => by
        rw [HP6.out]
        exact ⟨blk_cell ((HE6_10.out.trans hx).blk HR6.out) 0 _ rfl, blk_cell ((HE6_10.out.trans hx).blk HR6.out) 1 _ rfl⟩
      have hss := toList_eq nm nm
      rw [decide_eq_true rfl] at hss
      go_upto_region 11 with fail
      refine region_rgx ([(0, (fun u => u = .bool true : Value → Prop), (fun _ _ => True : (Nat → GV) → World → Prop)), (3, (fun u => u = .bool bm : Value → Prop), (fun _ _ => True : (Nat → GV) → World → Prop)), (5, (fun u => u = .bool bm : Value → Prop), (fun _ _ => True : (Nat → GV) → World → Prop)), (11, (fun u => u = .bool true : Value → Prop), (fun _ _ => True : (Nat → GV) → World → Prop)), (21, (fun u => u = .bool true : Value → Prop), (fun _ _ => True : (Nat → GV) → World → Prop)), (41, (fun u => u = .bool true : Value → Prop), (fun _ _ => True : (Nat → GV) → World → Prop))]) (w10) (by kernel_rfl) (by kernel_rfl) ?_ ?_ ?_
      · exact List.forall_mem_cons.2 ⟨⟨⟨_, rfl⟩, fun _ _ _ _ _ => trivial, fun _ _ _ _ _ => trivial⟩, List.forall_mem_cons.2 ⟨⟨⟨_, rfl⟩, fun _ _ _ _ _ => trivial, fun _ _ _ _ _ => trivial⟩, List.forall_mem_cons.2 ⟨⟨⟨_, rfl⟩, fun _ _ _ _ _ => trivial, fun _ _ _ _ _ => trivial⟩, List.forall_mem_cons.2 ⟨⟨⟨_, rfl⟩, fun _ _ _ _ _ => trivial, fun _ _ _ _ _ => trivial⟩, List.forall_mem_cons.2 ⟨⟨⟨_, rfl⟩, fun _ _ _ _ _ => trivial, fun _ _ _ _ _ => trivial⟩, List.forall_mem_cons.2 ⟨⟨⟨_, rfl⟩, fun _ _ _ _ _ => trivial, fun _ _ _ _ _ => trivial⟩, List.forall_mem_nil _⟩⟩⟩⟩⟩⟩
      · first | assumption | exact Ext.refl _
      refine rg_mem (fun u => u = .bool true : Value → Prop) (fun _ _ => True : (Nat → GV) → World → Prop) (fun _ => Ext) rfl rfl rfl rfl (by kernel_rfl) (by kernel_rfl) (fun w hS hN R hR => ?_) ?_
      · have HR := Lib.hid hR
        clear hR
        (try clear hN)
        go_simp
        refine givesM_call ((ifixed_yes w).mono ?_)
        rintro e w' ⟨rfl, hx⟩
        exact ⟨_, rfl, HR.out _ _ rfl trivial hx⟩
      rintro u0 s0 t0 rfl
      refine rg_pure (v := ?_) rfl (by kernel_rfl) (by kernel_rfl) (fun w hS hN => ?_) ?_
      rotate_left 1
      · clear hN
        go_simp
        try simp only [hss, beq_self_eq_true]
        refine givesP_mk ?_
        with_reducible rfl
      refine rg_pure (v := ?_) rfl (by kernel_rfl) (by kernel_rfl) (fun w hS hN => ?_) ?_
      rotate_left 1
      · obtain ⟨t0, t1, x0, x1, x2⟩ := HC0.out w (HX10.out.trans hS)
        clear hN
        go_simp
        try simp only [hss, beq_self_eq_true]
        refine givesP_mk ?_
        with_reducible rfl
      refine rg_mem (fun u => u = .bool bm : Value → Prop) (fun _ _ => True : (Nat → GV) → World → Prop) (fun _ => Ext) rfl rfl rfl rfl (by kernel_rfl) (by kernel_rfl) (fun w hS hN R hR => ?_) ?_
      · have HR := Lib.hid hR
        clear hR
        (try clear hN)
        go_simp
        refine givesM_call ((imay_k (.agg #[.slice A a c, .slice B b d]) t bm w HBM.out (HT.out.ext (HX10.out.trans hS)) HLS.out.1 HLS.out.2.1).mono ?_)
        rintro e w' ⟨rfl, hx⟩
        exact ⟨_, rfl, HR.out _ _ rfl trivial hx⟩
      rintro u3 s3 t3 rfl
      refine rg_pure (v := ?_) rfl (by kernel_rfl) (by kernel_rfl) (fun w hS hN => ?_) ?_
      rotate_left 1
      · obtain ⟨t0, t1, x0, x1, x2⟩ := HC0.out w (HX10.out.trans hS)
        clear hN
        go_simp
        try simp only [hss, beq_self_eq_true]
        refine givesP_mk ?_
        with_reducible rfl
      refine rg_mem (fun u => u = .bool bm : Value → Prop) (fun _ _ => True : (Nat → GV) → World → Prop) (fun _ => Ext) rfl rfl rfl rfl (by kernel_rfl) (by kernel_rfl) (fun w hS hN R hR => ?_) ?_
      · have HR := Lib.hid hR
        clear hR
        (try clear hN)
        go_simp
        refine givesM_call ((rtmay_k (.agg #[.slice A a c, .slice B b d]) t bm w HBM.out (HT.out.ext (HX10.out.trans hS)) HFN.out).mono ?_)
        rintro e w' ⟨rfl, hx⟩
        exact ⟨_, rfl, HR.out _ _ rfl trivial hx⟩
      rintro u5 s5 t5 rfl
      refine rg_pure (v := ?_) rfl (by kernel_rfl) (by kernel_rfl) (fun w hS hN => ?_) ?_
      rotate_left 1
      · clear hN
        go_simp
        try simp only [hss, beq_self_eq_true]
        refine givesP_mk ?_
        with_reducible rfl
      refine rg_pure (v := ?_) rfl (by kernel_rfl) (by kernel_rfl) (fun w hS hN => ?_) ?_
      rotate_left 1
      · clear hN
        go_simp
        try simp only [hss, beq_self_eq_true]
        refine givesP_mk ?_
        with_reducible rfl
      refine rg_pure (v := ?_) rfl (by kernel_rfl) (by kernel_rfl) (fun w hS hN => ?_) ?_
      rotate_left 1
      · clear hN
        go_simp
        try simp only [hss, beq_self_eq_true]
        refine givesP_mk ?_
        with_reducible rfl
      refine rg_pure (v := ?_) rfl (by kernel_rfl) (by kernel_rfl) (fun w hS hN => ?_) ?_
      rotate_left 1
      · obtain ⟨r0, r1⟩ := HCB3.out w hS
        clear hN
        go_simp
        try simp only [hss, beq_self_eq_true]
        refine givesP_mk ?_
        with_reducible rfl
      refine rg_pure (v := ?_) rfl (by kernel_rfl) (by kernel_rfl) (fun w hS hN => ?_) ?_
      rotate_left 1
      · obtain ⟨r0, r1⟩ := HCB4.out w hS
        clear hN
        go_simp
        try simp only [hss, beq_self_eq_true]
        refine givesP_mk ?_
        with_reducible rfl
      refine rg_mem (fun u => u = .bool true : Value → Prop) (fun _ _ => True : (Nat → GV) → World → Prop) (fun _ => Ext) rfl rfl rfl rfl (by kernel_rfl) (by kernel_rfl) (fun w hS hN R hR => ?_) ?_
      · have HR := Lib.hid hR
        clear hR
        (try clear hN)
        go_simp
        refine givesM_call ((rsametab_k (.agg #[.slice A3 k3 c3, .slice B3 m3 d3]) (.agg #[.slice A4 k4 c4, .slice B4 m4 d4]) a1 a1 true w (Tb.same_iff.2 rfl) (HT3.out.ext (HE3_10.out.trans hS)) (HT4.out.ext (HE4_10.out.trans hS)) HA1.out HA1.out).mono ?_)
        rintro e w' ⟨rfl, hx⟩
        exact ⟨_, rfl, HR.out _ _ rfl trivial hx⟩
      rintro u11 s11 t11 rfl
      refine rg_pure (v := ?_) rfl (by kernel_rfl) (by kernel_rfl) (fun w hS hN => ?_) ?_
      rotate_left 1
      · clear hN
        go_simp
        try simp only [hss, beq_self_eq_true]
        refine givesP_mk ?_
        with_reducible rfl
      refine rg_pure (v := ?_) rfl (by kernel_rfl) (by kernel_rfl) (fun w hS hN => ?_) ?_
      rotate_left 1
      · clear hN
        go_simp
        try simp only [hss, beq_self_eq_true]
        refine givesP_mk ?_
        with_reducible rfl
      refine rg_pure (v := ?_) rfl (by kernel_rfl) (by kernel_rfl) (fun w hS hN => ?_) ?_
      rotate_left 1
      · clear hN
        go_simp
        try simp only [hss, beq_self_eq_true]
        refine givesP_mk ?_
        with_reducible rfl
      refine rg_pure (v := ?_) rfl (by kernel_rfl) (by kernel_rfl) (fun w hS hN => ?_) ?_
      rotate_left 1
      · clear hN
        go_simp
        try simp only [hss, beq_self_eq_true]
        refine givesP_mk ?_
        with_reducible rfl
      refine rg_pure (v := ?_) rfl (by kernel_rfl) (by kernel_rfl) (fun w hS hN => ?_) ?_
      rotate_left 1
      · clear hN
        go_simp
        try simp only [hss, beq_self_eq_true]
        refine givesP_mk ?_
        with_reducible rfl
      refine rg_pure (v := ?_) rfl (by kernel_rfl) (by kernel_rfl) (fun w hS hN => ?_) ?_
      rotate_left 1
      · clear hN
        go_simp
        try simp only [hss, beq_self_eq_true]
        refine givesP_mk ?_
        with_reducible rfl
      refine rg_pure (v := ?_) rfl (by kernel_rfl) (by kernel_rfl) (fun w hS hN => ?_) ?_
      rotate_left 1
      · clear hN
        go_simp
        try simp only [hss, beq_self_eq_true]
        refine givesP_mk ?_
        with_reducible rfl
      refine rg_pure (v := ?_) rfl (by kernel_rfl) (by kernel_rfl) (fun w hS hN => ?_) ?_
      rotate_left 1
      · obtain ⟨r0, r1⟩ := HCB5.out w hS
        clear hN
        go_simp
        try simp only [hss, beq_self_eq_true]
        refine givesP_mk ?_
        with_reducible rfl
      refine rg_pure (v := ?_) rfl (by kernel_rfl) (by kernel_rfl) (fun w hS hN => ?_) ?_
      rotate_left 1
      · obtain ⟨r0, r1⟩ := HCB6.out w hS
        clear hN
        go_simp
        try simp only [hss, beq_self_eq_true]
        refine givesP_mk ?_
        with_reducible rfl
      refine rg_mem (fun u => u = .bool true : Value → Prop) (fun _ _ => True : (Nat → GV) → World → Prop) (fun _ => Ext) rfl rfl rfl rfl (by kernel_rfl) (by kernel_rfl) (fun w hS hN R hR => ?_) ?_
      · have HR := Lib.hid hR
        clear hR
        (try clear hN)
        go_simp
        refine givesM_call ((rsametab_k (.agg #[.slice A5 k5 c5, .slice B5 m5 d5]) (.agg #[.slice A6 k6 c6, .slice B6 m6 d6]) c1 c1 true w (Tb.same_iff.2 rfl) (HT5.out.ext (HE5_10.out.trans hS)) (HT6.out.ext (HE6_10.out.trans hS)) HC1.out HC1.out).mono ?_)
        rintro e w' ⟨rfl, hx⟩
        exact ⟨_, rfl, HR.out _ _ rfl trivial hx⟩
      rintro u21 s21 t21 rfl
      refine rg_pure (v := ?_) rfl (by kernel_rfl) (by kernel_rfl) (fun w hS hN => ?_) ?_
      rotate_left 1
      · clear hN
        go_simp
        try simp only [hss, beq_self_eq_true]
        refine givesP_mk ?_
        with_reducible rfl
      refine rg_pure (v := ?_) rfl (by kernel_rfl) (by kernel_rfl) (fun w hS hN => ?_) ?_
      rotate_left 1
      · clear hN
        go_simp
        try simp only [hss, beq_self_eq_true]
        refine givesP_mk ?_
        with_reducible rfl
      refine rg_pure (v := ?_) rfl (by kernel_rfl) (by kernel_rfl) (fun w hS hN => ?_) ?_
      rotate_left 1
      · clear hN
        go_simp
        try simp only [hss, beq_self_eq_true]
        refine givesP_mk ?_
        with_reducible rfl
      refine rg_pure (v := ?_) rfl (by kernel_rfl) (by kernel_rfl) (fun w hS hN => ?_) ?_
      rotate_left 1
      · clear hN
        go_simp
        try simp only [hss, beq_self_eq_true]
        refine givesP_mk ?_
        with_reducible rfl
      refine rg_pure (v := ?_) rfl (by kernel_rfl) (by kernel_rfl) (fun w hS hN => ?_) ?_
      rotate_left 1
      · clear hN
        go_simp
        try simp only [hss, beq_self_eq_true]
        refine givesP_mk ?_
        with_reducible rfl
      refine rg_pure (v := ?_) rfl (by kernel_rfl) (by kernel_rfl) (fun w hS hN => ?_) ?_
      rotate_left 1
      · clear hN
        go_simp
        try simp only [hss, beq_self_eq_true]
        refine givesP_mk ?_
        with_reducible rfl
      refine rg_pure (v := ?_) rfl (by kernel_rfl) (by kernel_rfl) (fun w hS hN => ?_) ?_
      rotate_left 1
      · clear hN
        go_simp
        try simp only [hss, beq_self_eq_true]
        refine givesP_mk ?_
        with_reducible rfl
      refine rg_pure (v := ?_) rfl (by kernel_rfl) (by kernel_rfl) (fun w hS hN => ?_) ?_
      rotate_left 1
      · clear hN
        go_simp
        try simp only [hss, beq_self_eq_true]
        refine givesP_mk ?_
        with_reducible rfl
      refine rg_pure (v := ?_) rfl (by kernel_rfl) (by kernel_rfl) (fun w hS hN => ?_) ?_
      rotate_left 1
      · clear hN
        go_simp
        try simp only [hss, beq_self_eq_true]
        refine givesP_mk ?_
        with_reducible rfl
      refine rg_pure (v := ?_) rfl (by kernel_rfl) (by kernel_rfl) (fun w hS hN => ?_) ?_
      rotate_left 1
      · clear hN
        go_simp
        try simp only [hss, beq_self_eq_true]
        refine givesP_mk ?_
        with_reducible rfl
      refine rg_pure (v := ?_) rfl (by kernel_rfl) (by kernel_rfl) (fun w hS hN => ?_) ?_
      rotate_left 1
      · clear hN
        go_simp
        try simp only [hss, beq_self_eq_true]
        refine givesP_mk ?_
        with_reducible rfl
      refine rg_pure (v := ?_) rfl (by kernel_rfl) (by kernel_rfl) (fun w hS hN => ?_) ?_
      rotate_left 1
      · clear hN
        go_simp
        try simp only [hss, beq_self_eq_true]
        refine givesP_mk ?_
        with_reducible rfl
      refine rg_pure (v := ?_) rfl (by kernel_rfl) (by kernel_rfl) (fun w hS hN => ?_) ?_
      rotate_left 1
      · clear hN
        go_simp
        try simp only [hss, beq_self_eq_true]
        refine givesP_mk ?_
        with_reducible rfl
      refine rg_pure (v := ?_) rfl (by kernel_rfl) (by kernel_rfl) (fun w hS hN => ?_) ?_
      rotate_left 1
      · clear hN
        go_simp
        try simp only [hss, beq_self_eq_true]
        refine givesP_mk ?_
        with_reducible rfl
      refine rg_pure (v := ?_) rfl (by kernel_rfl) (by kernel_rfl) (fun w hS hN => ?_) ?_
      rotate_left 1
      · clear hN
        go_simp
        try simp only [hss, beq_self_eq_true]
        refine givesP_mk ?_
        with_reducible rfl
      refine rg_pure (v := ?_) rfl (by kernel_rfl) (by kernel_rfl) (fun w hS hN => ?_) ?_
      rotate_left 1
      · clear hN
        go_simp
        try simp only [hss, beq_self_eq_true]
        refine givesP_mk ?_
        with_reducible rfl
      refine rg_pure (v := ?_) rfl (by kernel_rfl) (by kernel_rfl) (fun w hS hN => ?_) ?_
      rotate_left 1
      · clear hN
        go_simp
        try simp only [hss, beq_self_eq_true]
        refine givesP_mk ?_
        with_reducible rfl
      refine rg_pure (v := ?_) rfl (by kernel_rfl) (by kernel_rfl) (fun w hS hN => ?_) ?_
      rotate_left 1
      · clear hN
        go_simp
        try simp only [hss, beq_self_eq_true]
        refine givesP_mk ?_
        with_reducible rfl
      refine rg_pure (v := ?_) rfl (by kernel_rfl) (by kernel_rfl) (fun w hS hN => ?_) ?_
      rotate_left 1
      · clear hN
        go_simp
        try simp only [hss, beq_self_eq_true]
        refine givesP_mk ?_
        with_reducible rfl
      refine rg_mem (fun u => u = .bool true : Value → Prop) (fun _ _ => True : (Nat → GV) → World → Prop) (fun _ => Ext) rfl rfl rfl rfl (by kernel_rfl) (by kernel_rfl) (fun w hS hN R hR => ?_) ?_
      · have HR := Lib.hid hR
        clear hR
        (try clear hN)
        go_simp
        refine givesM_call ((rsamefr_k (.slice A9 fl.length c9) (.slice A10 fl.length c10) fl fl true w (by simp) (HR9.out.ext (HY10.out.trans hS)) (HR10.out.ext hS) HFC.out.1 HFC.out.1 HFC.out.2).mono ?_)
        rintro e w' ⟨rfl, hx⟩
        exact ⟨_, rfl, HR.out _ _ rfl trivial hx⟩
      rintro u41 s41 t41 rfl
      refine rg_pure (v := ?_) rfl (by kernel_rfl) (by kernel_rfl) (fun w hS hN => ?_) ?_
      rotate_left 1
      · clear hN
        go_simp
        try simp only [hss, beq_self_eq_true]
        refine givesP_mk ?_
        with_reducible rfl
      refine rg_pure (v := ?_) rfl (by kernel_rfl) (by kernel_rfl) (fun w hS hN => ?_) ?_
      rotate_left 1
      · clear hN
        go_simp
        try simp only [hss, beq_self_eq_true]
        refine givesP_mk ?_
        with_reducible rfl
      refine rg_pure (v := ?_) rfl (by kernel_rfl) (by kernel_rfl) (fun w hS hN => ?_) ?_
      rotate_left 1
      · clear hN
        go_simp
        try simp only [hss, beq_self_eq_true]
        refine givesP_mk ?_
        with_reducible rfl
      refine rg_pure (v := ?_) rfl (by kernel_rfl) (by kernel_rfl) (fun w hS hN => ?_) ?_
      rotate_left 1
      · clear hN
        go_simp
        try simp only [hss, beq_self_eq_true]
        refine givesP_mk ?_
        with_reducible rfl
      refine rg_pure (v := ?_) rfl (by kernel_rfl) (by kernel_rfl) (fun w hS hN => ?_) ?_
      rotate_left 1
      · clear hN
        go_simp
        try simp only [hss, beq_self_eq_true]
        refine givesP_mk ?_
        with_reducible rfl
      refine rg_pure (v := ?_) rfl (by kernel_rfl) (by kernel_rfl) (fun w hS hN => ?_) ?_
      rotate_left 1
      · clear hN
        go_simp
        try simp only [hss, beq_self_eq_true]
        refine givesP_mk ?_
        with_reducible rfl
      refine rg_pure (v := ?_) rfl (by kernel_rfl) (by kernel_rfl) (fun w hS hN => ?_) ?_
      rotate_left 1
      · clear hN
        go_simp
        try simp only [hss, beq_self_eq_true]
        refine givesP_mk ?_
        with_reducible rfl
      refine rg_done rfl (Nat.le_of_ble_eq_true (by kernel_rfl)) ?_
      intro w11 hS hT
      clear hT
      go_simp
      go_wp2
      go_ret
      exact ⟨rfl, HXW.out.trans (HX10.out.trans hS)⟩

end Go.Proofs.Ythkalaohaholaaa
