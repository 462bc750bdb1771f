/-
  The contract of intern's text.
-/
import Derived.Test.YthkalaohaholaaaIg
import Derived.StillTailTactics
set_option linter.unusedVariables false
set_option linter.unusedSimpArgs false
namespace Go.Proofs.Ythkalaohaholaaa
open Go.RowKit Go.Maps

/-- A book that can be written on: its strings and what is new lie from block S on. -/
structure BookS (w : World) (g tb kb S : Nat) (ss : List ByteArray) (sv kv : Value) : Prop where
  row : w.heap[g]? = some (.cells (bookV sv kv tb kb) 50 (0, 0))
  own : OwnS w S sv ss
  map : MapQ textKind intKind 0 w tb ss.length (Tb.idx ss)
  gS : g < S
  tS : tb < S
  ne : tb ≠ g
  sz : S ≤ w.heap.size
/-- What text turns. -/
def Turns (g tb S : Nat) (i : Nat) : Prop := i = g ∨ i = tb ∨ S ≤ i
theorem row_one {α : Type} {f : α → List Value} {w : World} (s : α) (T : TypeId) : RowsAt (f s).length f (w.alloc (.cells (f s).toArray T)) (.slice (some ⟨w.heap.size, 0, none⟩) 1 1) [s] :=
  ⟨_, _, rfl, Nat.le_refl _, fun _ => ⟨w.heap.size, 0, rfl, by simp, fun j x hj i u hu => by
    have hj0 : j = 0 := by have := (List.getElem?_eq_some_iff.1 hj).1; simpa using this
    subst hj0
    simp only [List.getElem?_cons_zero, Option.some.injEq] at hj
    subst hj
    rw [Nat.zero_mul, Nat.add_zero, Nat.zero_add, World.cell?_alloc_new]
    simpa using hu⟩⟩
def TextP (g tb kb S : Nat) (ss : List ByteArray) (s : ByteArray) (sv kv : Value) (w : World) (e : Ending) (w' : World) : Prop :=
  e = .returned (.int .i64 (Tb.text ss s).2) ∧ ∃ sv', BookS w' g tb kb S (Tb.text ss s).1 sv' kv ∧ But (Turns g tb S) w w' ∧ ∀ F, F < w.heap.size → F ≠ g → F ≠ tb → sv.ownBlock ≠ some F → w'.heap[F]? = w.heap[F]? ∧ sv'.ownBlock ≠ some F
set_option maxRecDepth 100000 in
set_option maxHeartbeats 4000000 in
theorem itext_any (g tb kb S : Nat) (ss : List ByteArray) (s : ByteArray) (sv kv : Value) (w : World) (h : BookS w g tb kb S ss sv kv) (hl : ss.length ≤ 10000) (hs : s.size ≤ maxLen) :
    Calls Try.prog 25 #[.pointer (some ⟨g, 0, none⟩), .string s] w (TextP g tb kb S ss s sv kv w) := by
  obtain ⟨A, c, rfl, hc⟩ := (OwnRows.rows strL_len h.own).form
  have HB := Lib.hid h
  have hlook := look_text h.map s hs
  have HC := Lib.hid (maytext_any s w)
  obtain ⟨b0, b1, b2, b3⟩ := cells4 h.row
  obtain ⟨f0, f1, f2, f3⟩ := frozen4 h.row
  clear h
  by_cases hin : s ∈ ss
  · have HT : Hid (TextP g tb kb S ss s (.slice A ss.length c) kv w (.returned (.int .i64 (Tb.idx ss s))) w) := Lib.hid (by
      unfold TextP
      rw [Tb.text_again hin]
      exact ⟨rfl, _, HB.out, But.refl _ _, fun F _ _ _ h => ⟨rfl, h⟩⟩)
    have hpos := Tb.idx_pos.2 hin
    generalize Tb.idx ss s = n at *
    go_enter Try.func25, Try.ntmps25
    go_wp2
    go_ret
    exact HT.out
  · rw [Tb.idx_zero.2 hin] at hlook
    by_cases hm : Tb.mayS s = true
    · by_cases hf : ss.length = 10000
      · have HT : Hid (TextP g tb kb S ss s (.slice A ss.length c) kv w (.returned (.int .i64 0)) w) := Lib.hid (by
          unfold TextP Tb.text
          rw [if_neg hin, if_neg (fun h => h.2 hf)]
          exact ⟨rfl, _, HB.out, But.refl _ _, fun F _ _ _ h => ⟨rfl, h⟩⟩)
        have hfi : ((ss.length : Int) == 10000) = true := by rw [hf]; rfl
        rw [hm] at HC
        go_enter Try.func25, Try.ntmps25
        go_wp2_with fail
        refine HC.out.mono ?_
        rintro e w' ⟨rfl, rfl⟩
        go_wp2
        go_ret
        exact HT.out
      · have HT : Hid (Tb.text ss s = (ss ++ [s], (ss.length : Int) + 1)) := Lib.hid (by
          unfold Tb.text
          rw [if_neg hin, if_pos ⟨hm, hf⟩])
        have hfi : ((ss.length : Int) == 10000) = false := by simp; omega
        rw [hm] at HC
        go_enter Try.func25, Try.ntmps25
        go_wp2_with fail
        refine HC.out.mono ?_
        rintro e w' ⟨rfl, rfl⟩
        obtain ⟨i0, I0, I1, I2, I3⟩ := info_parts Try.infoText
        obtain ⟨v', w2, hr, ho, hg, hbk⟩ := OwnRows.append2 (P := Try.prog) (e := 9) (m := 1) (f := strL) (xs := ss) (ys := [s]) (B := S) 22 Try.underlying22 I0 I1 I2 I3 rfl (by decide) strL_len strL_one (OwnRows.ext HB.out.own ((Ext.refl w).alloc (.cells #[.string s] 9))) (row_one (f := strL) s 9) (by unfold maxLen; simp; omega) (by simp; omega) (by have := HB.out.sz; simp; omega)
        have HR := Lib.hid hr
        have hlen : (ss ++ [s]).length = ss.length + 1 := by simp
        obtain ⟨A', c', rfl, hc'⟩ := (OwnRows.rows strL_len ho).form
        have HO := Lib.hid ho
        have hownS : ∀ k, (Value.slice A ss.length c).ownBlock = some k → S ≤ k := fun k hk => (HB.out.own.lt k hk).1
        have hg1 : w2.heap[g]? = some (.cells (bookV (.slice A ss.length c) kv tb kb) 50 (0, 0)) := (hg.block g (by have := blk_lt HB.out.row; simp; omega) (fun e => by have := hownS g e.symm; have := HB.out.gS; omega)).trans (blk_alloc HB.out.row _)
        have hb2 : But (Turns g tb S) w w2 := ⟨hg.os, hg.tape, hg.output, Nat.le_trans (by simp) hg.size, fun i hi hn => (hg.block i (by simp; omega) (fun e => hn (.inr (.inr (hownS i e.symm))))).trans (Below.heap_alloc w _ i hi)⟩
        have hmq2 : MapQ textKind intKind 0 w2 tb ss.length (Tb.idx ss) := by
          obtain ⟨D, h1, h2⟩ := HB.out.map.ext ((Ext.refl w).alloc (.cells #[.string s] 9))
          exact ⟨D, h1.kept hg (fun e => by have := hownS tb e.symm; have := HB.out.tS; omega), h2⟩
        have HFAR : Hid (∀ F, F < w.heap.size → F ≠ g → F ≠ tb → (Value.slice A ss.length c).ownBlock ≠ some F → w2.heap[F]? = w.heap[F]? ∧ (Value.slice A' (ss ++ [s]).length c').ownBlock ≠ some F) := Lib.hid fun F hF _ _ hno => ⟨(hg.block F (by simp; omega) (fun e => hno e.symm)).trans (Below.heap_alloc w _ F hF), fun e => by
          rcases hbk with hbk | hbk
          · exact hno (hbk.symm.trans e)
          · rw [hbk] at e; injection e with e; simp at e; omega⟩
        have HG1 := Lib.hid hg1
        have HB2 := Lib.hid hb2
        have HMQ := Lib.hid hmq2
        obtain ⟨p0, p1, p2, p3⟩ := cells4 hg1
        obtain ⟨r0, r1, r2, r3⟩ := frozen4 hg1
        rw [hlen] at hc'
        clear hr ho hg hbk hg1 hb2 hmq2 I0 I1 I2 I3 hlook
        go_wp2_with (at_builtin; refine wpList_append_run rfl _ _ 22 rfl _ _ rfl rfl HR.out ?_)
        obtain ⟨w3, hw3⟩ : ∃ w3, w2.setCell ⟨g, 0, none⟩ (.slice A' (ss.length + 1) c') = w3 := ⟨_, rfl⟩
        have hu3 : Upd g w2 w3 := by rw [← hw3]; exact (Upd.refl g w2).set 0 _
        have hq3 : w3.heap[g]? = some (.cells (bookV (.slice A' (ss.length + 1) c') kv tb kb) 50 (0, 0)) := by rw [← hw3]; exact blk_set HG1.out 0 _
        have HQ3 := Lib.hid hq3
        have HU3 := Lib.hid hu3
        have HM3 := Lib.hid (HMQ.out.upd hu3 HB.out.ne)
        have HO3 : Hid (OwnS w3 S (.slice A' (ss.length + 1) c') (ss ++ [s])) := Lib.hid (by
          have := HO.out
          rw [hlen] at this
          exact World.ownsRow.kept this hu3 (by
            cases hv : (Value.slice A' (ss.length + 1) c').ownBlock with
            | none => exact .inl rfl
            | some q => right; have := (OwnRows.lt this q hv).1; have := HB.out.gS; intro he; injection he; omega))
        rw [hw3]
        clear hw3 p0 p1 p2 p3 r0 r1 r2 r3 b0 b1 b2 b3 f0 f1 f2 f3 hu3 hq3
        obtain ⟨p0, p1, p2, p3⟩ := cells4 HQ3.out
        go_still_tail 11, (by kernel_rfl)
        change wpList _ _ _ _ _ w3.drew
        obtain ⟨w4, hr4, hm4, hu4⟩ := store_text (HM3.out.ext (Ext.refl w3).drew) (f' := Tb.idx (ss ++ [s])) (by unfold maxLen; omega) s hs ((ss.length : Int) + 1) (by rw [Tb.idx_snoc hin, if_pos rfl]) (fun y hy => by rw [Tb.idx_snoc hin, if_neg hy])
        have HM4 := Lib.hid hm4
        have HU4 := Lib.hid hu4
        clear hm4 hu4
        refine mapUpdate_run rfl _ _ _ 47 rfl (.map (some tb)) (.string s) (.int .i64 ((ss.length : Int) + 1)) rfl rfl rfl hr4 ?_
        have HQ4 : Hid (w4.heap[g]? = _) := Lib.hid (HU4.out.blk (show w3.drew.heap[g]? = _ from HQ3.out) (Ne.symm HB.out.ne))
        have q4 : w4.cell? ⟨g, 0, none⟩ = some (.slice A' (ss.length + 1) c') := blk_cell HQ4.out 0 _ rfl
        go_wp2
        go_ret
        unfold TextP
        rw [HT.out]
        have hx3 : But (Turns g tb S) w w3 := HB2.out.trans (But.upd HU3.out (.inl rfl))
        have hx4 : But (Turns g tb S) w w4 := (hx3.trans (But.ext (Ext.refl w3).drew)).trans (But.upd HU4.out (.inr (.inl rfl)))
        refine ⟨rfl, _, ⟨HQ4.out, ?_, ?_, HB.out.gS, HB.out.tS, HB.out.ne, Nat.le_trans HB.out.sz hx4.size⟩, hx4, fun F h1 h2 h3 h4 => ?_⟩
        · exact World.ownsRow.kept (show w3.drew.ownsRow _ _ _ _ _ _ from HO3.out) HU4.out (by
            cases hv : (Value.slice A' (ss.length + 1) c').ownBlock with
            | none => exact .inl rfl
            | some q => right; have := (OwnRows.lt HO3.out q hv).1; have := HB.out.tS; intro he; injection he; omega)
        · have := HM4.out
          rw [show (ss ++ [s]).length = ss.length + 1 by simp]
          exact this
        · obtain ⟨h5, h6⟩ := HFAR.out F h1 h2 h3 h4
          rw [show (ss ++ [s]).length = ss.length + 1 by simp] at h6
          have hz2 := HB2.out.size
          refine ⟨?_, h6⟩
          rw [HU4.out.block F (by show F < w3.heap.size; have := HU3.out.size; omega) (fun e => h3 (by injection e))]
          exact (HU3.out.block F (by omega) (fun e => h2 (by injection e))).trans h5
    · have HT : Hid (TextP g tb kb S ss s (.slice A ss.length c) kv w (.returned (.int .i64 0)) w) := Lib.hid (by
        unfold TextP Tb.text
        rw [if_neg hin, if_neg (fun h => hm h.1)]
        exact ⟨rfl, _, HB.out, But.refl _ _, fun F _ _ _ h => ⟨rfl, h⟩⟩)
      rw [Bool.eq_false_iff.2 hm] at HC
      go_enter Try.func25, Try.ntmps25
      go_wp2_with fail
      refine HC.out.mono ?_
      rintro e w' ⟨rfl, rfl⟩
      go_wp2
      go_ret
      exact HT.out

end Go.Proofs.Ythkalaohaholaaa
