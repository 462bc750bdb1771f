/-
  The contracts of intern's clones, and of its own.
-/
import Derived.Test.YthkalaohaholaaaIf
import Derived.Lib.SliceRun
import Derived.Laws.MakeOwn
set_option linter.unusedVariables false
set_option linter.unusedSimpArgs false
namespace Go.Proofs.Ythkalaohaholaaa
open Go.RowKit Go.Maps

theorem Try.infoFrame : (Try.prog.info? 54).map (fun i => (i.zero, i.size, i.bytes)) = some (some (.agg #[.int .i64 0, .int .i64 0]), 2, 16) := by kernel_rfl
theorem Try.infoText : (Try.prog.info? 9).map (fun i => (i.zero, i.size, i.bytes)) = some (some (.string ⟨#[]⟩), 1, 16) := by kernel_rfl
theorem frL_one (p : Int × Int) : ∀ u ∈ frL p, u.oneCell' = true := by intro u hu; simp [frL] at hu; rcases hu with rfl | rfl <;> rfl
theorem strL_one (p : ByteArray) : ∀ u ∈ strL p, u.oneCell' = true := by intro u hu; simp [strL] at hu; subst hu; rfl
def OwnF (w : World) (B : Nat) (v : Value) (xs : List (Int × Int)) : Prop := OwnRows 54 2 frL w B v xs
def OwnS (w : World) (B : Nat) (v : Value) (xs : List ByteArray) : Prop := OwnRows 9 1 strL w B v xs
set_option maxRecDepth 100000 in
set_option maxHeartbeats 2000000 in
theorem iclone_any (v : Value) (xs : List (Int × Int)) (w : World) (h : RowsAt 2 frL w v xs) (hn : xs.length ≤ 1000000) : Calls Try.prog 35 #[v] w fun e w' => ∃ u, e = .returned u ∧ OwnF w' w.heap.size u xs ∧ Ext w w' := by
  obtain ⟨i0, I0, I1, I2, I3⟩ := info_parts Try.infoFrame
  have hR := h
  obtain ⟨A, c, rfl, hc⟩ := hR.form
  clear h
  cases A with
  | none =>
    have h0 : xs = [] := by
      cases xs with
      | nil => rfl
      | cons x xs => obtain ⟨b, o, hb, _⟩ := hR.cell (by simp); cases hb
    subst h0
    have hnil := fun (wx : World) (a : Option Addr) (n c : Nat) => Lib.run_eql_slice_nil (P := Try.prog) wx 46 54 a n c 0 0 Try.underlying46
    clear hR I0 I1 I2 I3
    go_enter Try.func35, Try.ntmps35
    go_wp2
    go_ret
    exact ⟨_, rfl, OwnRows.nil w _, Ext.refl _⟩
  | some a =>
    have hmade : OwnRows 54 2 frL (w.alloc (.cells #[] 54)) w.heap.size (.slice (some ⟨w.heap.size, 0, none⟩) 0 0) [] := World.ownsRow_made (base := w.heap.size) (e := 54) (size := 2) w #[] 0 (Nat.le_refl _) (by decide) rfl
    obtain ⟨u, w1, hr, ho, hg⟩ := OwnRows.append (P := Try.prog) (e := 54) (m := 2) (f := frL) (xs := []) 46 Try.underlying46 I0 I1 I2 I3 rfl (by decide) frL_len frL_one hmade (hR.ext ((Ext.refl w).alloc _)) (by simp [maxLen]; omega) (by simp; omega) (by simp)
    have HR := Lib.hid hr
    have HO := Lib.hid ho
    have HX : Hid (Ext w w1) := Lib.hid (OwnRows.grown (W := w) hmade ((Ext.refl w).alloc _) hg)
    have hnil := fun (wx : World) (a : Option Addr) (n c : Nat) => Lib.run_eql_slice_nil (P := Try.prog) wx 46 54 a n c 0 0 Try.underlying46
    clear hr ho hg hmade hR I0 I1 I2 I3
    go_enter Try.func35, Try.ntmps35
    go_wp2_with (at_builtin; refine wpList_append_run rfl _ _ 46 rfl _ _ rfl rfl HR.out ?_)
    go_ret
    exact ⟨_, rfl, HO.out, HX.out⟩
set_option maxRecDepth 100000 in
set_option maxHeartbeats 2000000 in
theorem sclones_any (v : Value) (xs : List ByteArray) (w : World) (h : RowsAt 1 strL w v xs) (hn : xs.length ≤ 1000000) : Calls Try.prog 36 #[v] w fun e w' => ∃ u, e = .returned u ∧ OwnS w' w.heap.size u xs ∧ Ext w w' := by
  obtain ⟨i0, I0, I1, I2, I3⟩ := info_parts Try.infoText
  have hR := h
  obtain ⟨A, c, rfl, hc⟩ := hR.form
  clear h
  cases A with
  | none =>
    have h0 : xs = [] := by
      cases xs with
      | nil => rfl
      | cons x xs => obtain ⟨b, o, hb, _⟩ := hR.cell (by simp); cases hb
    subst h0
    have hnil := fun (wx : World) (a : Option Addr) (n c : Nat) => Lib.run_eql_slice_nil (P := Try.prog) wx 22 9 a n c 0 0 Try.underlying22
    clear hR I0 I1 I2 I3
    go_enter Try.func36, Try.ntmps36
    go_wp2
    go_ret
    exact ⟨_, rfl, OwnRows.nil w _, Ext.refl _⟩
  | some a =>
    have hmade : OwnRows 9 1 strL (w.alloc (.cells #[] 9)) w.heap.size (.slice (some ⟨w.heap.size, 0, none⟩) 0 0) [] := World.ownsRow_made (base := w.heap.size) (e := 9) (size := 1) w #[] 0 (Nat.le_refl _) (by decide) rfl
    obtain ⟨u, w1, hr, ho, hg⟩ := OwnRows.append (P := Try.prog) (e := 9) (m := 1) (f := strL) (xs := []) 22 Try.underlying22 I0 I1 I2 I3 rfl (by decide) strL_len strL_one hmade (hR.ext ((Ext.refl w).alloc _)) (by simp [maxLen]; omega) (by simp; omega) (by simp)
    have HR := Lib.hid hr
    have HO := Lib.hid ho
    have HX : Hid (Ext w w1) := Lib.hid (OwnRows.grown (W := w) hmade ((Ext.refl w).alloc _) hg)
    have hnil := fun (wx : World) (a : Option Addr) (n c : Nat) => Lib.run_eql_slice_nil (P := Try.prog) wx 22 9 a n c 0 0 Try.underlying22
    clear hr ho hg hmade hR I0 I1 I2 I3
    go_enter Try.func36, Try.ntmps36
    go_wp2_with (at_builtin; refine wpList_append_run rfl _ _ 22 rfl _ _ rfl rfl HR.out ?_)
    go_ret
    exact ⟨_, rfl, HO.out, HX.out⟩
theorem Try.infoRow : (Try.prog.info? 46).map (fun i => (i.zero, i.size, i.bytes)) = some (some (.slice none 0 0), 1, 24) := by kernel_rfl
def bookV (sv kv : Value) (tb kb : Nat) : Array Value := #[sv, kv, .map (some tb), .map (some kb)]
/-- Stacks of the call's own: the outer slice in block m, the inner ones behind it, below S. -/
def NestO (w : World) (m S : Nat) (kv : Value) (ks : List (List (Int × Int))) : Prop :=
  ∃ vs : List Value, vs.length = ks.length ∧ OwnRows 46 1 oneL w m kv vs ∧ (∀ b, kv.ownBlock = some b → b = m) ∧ ∀ (i : Nat) u xs, vs[i]? = some u → ks[i]? = some xs → RowsIn (m + 1) S 2 frL w u xs
theorem NestO.but {T : Nat → Prop} {w w' : World} {m S : Nat} {kv : Value} {ks : List (List (Int × Int))} (h : NestO w m S kv ks) (k : But T w w') (hs : ∀ b, m ≤ b → b < S → ¬ T b) (hm : m < S) : NestO w' m S kv ks := by
  obtain ⟨vs, h1, h2, h3, h4⟩ := h
  refine ⟨vs, h1, ⟨h2.1, ?_⟩, h3, fun i u xs a b => (h4 i u xs a b).but k fun b h1 h2 => hs b (by omega) h2⟩
  rcases h2.2 with h0 | ⟨q, cap, cur, hv, hg, hh, r⟩
  · exact .inl h0
  · have hqm := h3 q (by rw [hv]; rfl)
    exact .inr ⟨q, cap, cur, hv, hg, k.blk hh (hs q (by omega) (by omega)), r⟩
theorem NestO.nest {w : World} {m S : Nat} {kv : Value} {ks : List (List (Int × Int))} (h : NestO w m S kv ks) : NestAt 2 frL w kv ks := by
  obtain ⟨vs, h1, h2, h3, h4⟩ := h
  exact ⟨vs, h1, OwnRows.rows oneL_len h2, fun i u xs a b => (h4 i u xs a b).rows⟩
theorem own_any (g tb kb : Nat) (sv kv : Value) (t : Tb) (w : World) (hb : w.heap[g]? = some (.cells (bookV sv kv tb kb) 50 (0, 0))) (hs : RowsAt 1 strL w sv t.ss) (hk : NestAt 2 frL w kv t.ks) (hl : t.ss.length ≤ 100000) (hm : t.ks.length ≤ 100000) (hlk : ∀ l ∈ t.ks, l.length ≤ 1000000) :
    Calls Try.prog 24 #[.pointer (some ⟨g, 0, none⟩)] w fun e w' => e = .returned (.tuple #[]) ∧ ∃ S sv' kv', w.heap.size < S ∧ S ≤ w'.heap.size ∧ w'.heap[g]? = some (.cells (bookV sv' kv' tb kb) 50 (0, 0)) ∧ OwnS w' S sv' t.ss ∧ NestO w' w.heap.size S kv' t.ks ∧ Upd g w w' := by
  obtain ⟨A, c, rfl, hc⟩ := hs.form
  obtain ⟨B, d, rfl, hd⟩ := hk.form
  have HS := Lib.hid hs
  have HK := Lib.hid hk
  have HB := Lib.hid hb
  have HLK := Lib.hid hlk
  clear hs hk hb hlk
  obtain ⟨i0, I0, I1, I2, I3⟩ := info_parts Try.infoRow
  have hmk : (Instr.makeSlice 23 (.int .i64 (t.ks.length : Int)) (.int .i64 (t.ks.length : Int))).run Try.prog w = .ok (.slice (some ⟨w.heap.size, 0, none⟩) t.ks.length t.ks.length) (w.alloc (.cells (madeCells #[.slice none 0 0] (t.ks.length * 1)) 46)) := by
    have := run_make (P := Try.prog) w 23 46 i0 (.slice none 0 0) Try.underlying23 I0 I1 .i64 .i64 (t.ks.length : Int) (t.ks.length : Int) (by omega) (by omega) (by rw [I3]; omega) (by omega)
    rw [I2] at this
    simp only [Int.toNat_natCast] at this
    exact this
  obtain ⟨w1, hw1⟩ : ∃ w1, w.alloc (.cells (madeCells #[.slice none 0 0] (t.ks.length * 1)) 46) = w1 := ⟨_, rfl⟩
  have HB1 : Hid (w1.heap[g]? = some (.cells (bookV (.slice A t.ss.length c) (.slice B t.ks.length d) tb kb) 50 (0, 0))) := Lib.hid (by rw [← hw1]; exact blk_alloc HB.out _)
  have hq1 : w1.heap[w.heap.size]? = some (.cells (madeCells #[.slice none 0 0] (t.ks.length * 1)) 46 (0, 0)) := by rw [← hw1]; exact blk_new w _
  have hsz : (madeCells #[.slice none 0 0] (t.ks.length * 1)).size = t.ks.length := by simp [size_madeCells]
  have HX1 : Hid (Ext w w1) := Lib.hid (by rw [← hw1]; exact (Ext.refl w).alloc _)
  generalize madeCells #[.slice none 0 0] (t.ks.length * 1) = cs0 at *
  rw [hw1] at hmk
  have HQ1 := Lib.hid hq1
  have HSZ := Lib.hid hsz
  have hlt1 := blk_lt hq1
  obtain ⟨m, hm0⟩ : ∃ m, w.heap.size = m := ⟨_, rfl⟩
  have HM := Lib.hid hm0
  have hgm : g < m := by have := blk_lt HB.out; omega
  rw [hm0] at HQ1 hlt1 hmk
  obtain ⟨b0, b1, b2, b3⟩ := cells4 HB.out
  obtain ⟨e0, e1, e2, e3⟩ := cells4 HB1.out
  clear hw1 hq1 hsz I0 I1 I2 I3 hm0
  go_enter Try.func24, Try.ntmps24
  go_wp2_with fail
  go_loopw [18] (fun iv wr => ∃ k : Nat, k ≤ t.ks.length ∧ iv = .int .i64 k ∧ ∃ cs : Array Value, cs.size = t.ks.length ∧ wr.heap[m]? = some (.cells cs 46 (0, 0)) ∧ (∀ j, j < k → ∃ u xs, cs[j]? = some u ∧ t.ks[j]? = some xs ∧ RowsIn (m + 1) wr.heap.size 2 frL wr u xs) ∧ Ext w wr) (fun iv _ => t.ks.length - (intOf iv).toNat)
  case atStart => exact ⟨0, by omega, rfl, cs0, HSZ.out, HQ1.out, fun j hj => by omega, HX1.out⟩
  case round =>
    obtain ⟨k, hk, rfl, cs, hcs, hq, hrows, hx⟩ := hrel
    have HCS := Lib.hid hcs
    have HQ := Lib.hid hq
    have HRO := Lib.hid hrows
    have HX := Lib.hid hx
    clear hcs hq hrows hx b0 b1 b2 b3 e0 e1 e2 e3 hmk
    by_cases hlt : k < t.ks.length
    · obtain ⟨l, hl⟩ : ∃ l, t.ks[k]? = some l := ⟨_, List.getElem?_eq_getElem hlt⟩
      have HL := Lib.hid hl
      obtain ⟨b, o, u, rfl, hb, hcell, hrow⟩ := (HK.out.ext HX.out).one hl
      have HC := Lib.hid (iclone_any u l wr hrow (HLK.out l (List.mem_of_getElem? hl)))
      obtain ⟨Au, cu, rfl, hcu⟩ := hrow.form
      clear hrow hl
      go_wp2_with fail
      refine HC.out.mono ?_
      rintro e w2 ⟨u', rfl, ho, hx2⟩
      obtain ⟨Ac, cc, rfl, hcc⟩ := (OwnRows.rows frL_len ho).form
      have hq2 := hx2.blk HQ.out
      have HQ2 := Lib.hid hq2
      have HX2 := Lib.hid (HX.out.trans hx2)
      have HXK := Lib.hid hx2
      have HON := Lib.hid (OwnRows.rowsIn frL_len ho)
      have hkcs : k < cs.size := by have := HCS.out; omega
      have hck := blk_cell HQ2.out k _ (Array.getElem?_eq_getElem hkcs)
      have hfk := frozen_of_row _ _ k _ _ HQ2.out
      have hmr := blk_lt HQ.out
      clear ho hx2 hq2
      go_wp2
      go_roundw
      case rel =>
        refine ⟨k + 1, by omega, by go_num, cs.setIfInBounds k (.slice Ac l.length cc), by simpa using HCS.out, ?_, ?_, ?_⟩
        · first | exact blk_set HQ2.out k _ | (have := blk_set HQ2.out k (.slice Ac l.length cc); simpa using this)
        · have hub := (Upd.refl m w2).set k (.slice Ac l.length cc)
          intro j hj
          by_cases hjk : j = k
          · subst hjk
            refine ⟨.slice Ac l.length cc, l, ?_, HL.out, ?_⟩
            · rw [Array.getElem?_setIfInBounds_self, if_pos hkcs]
            · exact (HON.out.mono (by omega) (by simp [World.setCell])).but (But.upd (S := fun i => i = m) hub rfl) (fun b h1 _ h2 => by omega)
          · obtain ⟨u', xs, h1, h2, h3⟩ := HRO.out j (by omega)
            refine ⟨u', xs, ?_, h2, ?_⟩
            · rw [Array.getElem?_setIfInBounds_ne (by omega)]; exact h1
            · exact ((h3.ext HXK.out).mono (Nat.le_refl _) (by have := HXK.out.size; simp [World.setCell]; omega)).but (But.upd (S := fun i => i = m) hub rfl) (fun b h1 _ h2 => by omega)
        · exact HX2.out.upd ((Upd.refl m w2).set k _) (by have := HM.out; omega)
      case measure => simp [intOf]; omega
    · obtain rfl : k = t.ks.length := by omega
      have HNI : Hid (∀ S w', wr.heap.size ≤ S → Ext wr w' → NestO w' m S (.slice (some ⟨m, 0, none⟩) t.ks.length t.ks.length) t.ks) := Lib.hid fun S w' hS hx' => by
        have hcl : cs.toList.length = t.ks.length := by rw [Array.length_toList]; exact HCS.out
        refine ⟨cs.toList, hcl, ⟨?_, .inr ⟨m, t.ks.length, cs, by rw [hcl], Nat.le_refl _, hx'.blk HQ.out, by rw [hcl]; exact Nat.le_refl _, by unfold maxLen; omega, by rw [HCS.out]; omega, ?_⟩⟩, fun b hb => by cases hb; rfl, fun i u xs hi hxs => ?_⟩
        · have e : ∀ l : List Value, l.flatMap oneL = l := fun l => by induction l with | nil => rfl | cons x l ih => simp only [List.flatMap_cons, ih]; rfl
          rw [e, Nat.mul_one]
        · have e : ∀ l : List Value, l.flatMap oneL = l := fun l => by induction l with | nil => rfl | cons x l ih => simp only [List.flatMap_cons, ih]; rfl
          rw [e]
          exact List.take_of_length_le (by omega)
        · have hlt' : i < t.ks.length := (List.getElem?_eq_some_iff.1 hxs).1
          obtain ⟨u', xs', h1, h2, h3⟩ := HRO.out i hlt'
          rw [hxs] at h2
          cases h2
          have : cs.toList[i]? = some u' := by simpa using h1
          rw [hi] at this
          cases this
          exact (h3.ext hx').mono (Nat.le_refl _) hS
      have hgr := HX.out.blk HB.out
      have HGR := Lib.hid hgr
      obtain ⟨e0, e1, e2, e3⟩ := cells4 hgr
      have HC := Lib.hid (sclones_any _ t.ss wr (HS.out.ext HX.out) (by omega))
      clear hgr
      go_wp2_with fail
      refine HC.out.mono ?_
      rintro e w2 ⟨sv', rfl, ho, hx2⟩
      have HO := Lib.hid ho
      obtain ⟨As, cs', rfl, hcs'⟩ := (OwnRows.rows strL_len ho).form
      have hg2 := hx2.blk HGR.out
      have HG2 := Lib.hid hg2
      have HX2 := Lib.hid hx2
      obtain ⟨f0, f1, f2, f3⟩ := frozen4 hg2
      obtain ⟨e0, e1, e2, e3⟩ := cells4 hg2
      clear ho hx2 hg2
      go_wp2
      go_end0
      have hgw : g < wr.heap.size := blk_lt HGR.out
      have hub := ((Upd.refl g w2).set 0 (.slice As t.ss.length cs')).set 1 (.slice (some ⟨m, 0, none⟩) t.ks.length t.ks.length)
      have hb : But (fun i => i = g) w2 _ := But.upd hub rfl
      refine ⟨rfl, wr.heap.size, .slice As t.ss.length cs', .slice (some ⟨m, 0, none⟩) t.ks.length t.ks.length, ?_, ?_, ?_, ?_, ?_, ?_⟩
      · have := blk_lt HQ.out; have := HM.out; omega
      · have := HX2.out.size; simp only [World.setCell]; simpa using this
      · exact blk_set (blk_set HG2.out 0 _) 1 _
      · exact World.ownsRow.kept HO.out hub (by
          cases hv : (Value.slice As t.ss.length cs').ownBlock with
          | none => exact .inl rfl
          | some q => right; have := (OwnRows.lt HO.out q hv).1; intro he; injection he; omega)
      · rw [HM.out]
        exact (HNI.out wr.heap.size w2 (Nat.le_refl _) HX2.out).but hb (fun b h1 _ h2 => by omega) (blk_lt HQ.out)
      · exact (Upd.ext (HX.out.trans HX2.out)).trans hub

end Go.Proofs.Ythkalaohaholaaa
