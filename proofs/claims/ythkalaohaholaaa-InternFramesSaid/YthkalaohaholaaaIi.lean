/-
  The contract of intern's stack.
-/
import Derived.Test.YthkalaohaholaaaIh
set_option linter.unusedVariables false
set_option linter.unusedSimpArgs false
namespace Go.Proofs.Ythkalaohaholaaa
open Go.RowKit Go.Maps

def Tb.lays (m : Nat) (ks : List (List (Int × Int))) (l : List (Int × Int)) : List (List (Int × Int)) × Int :=
  if Tb.mayK m l = true then (if l ∈ ks then (ks, Tb.idx ks l) else if ks.length = 10000 then (ks, 0) else (ks ++ [l], (ks.length : Int) + 1)) else (ks, 0)
theorem NestO.nestIn {w w' : World} {g m S : Nat} {kv : Value} {ks : List (List (Int × Int))} (h : NestO w m S kv ks) (hgm : g < m) (hS : S ≤ w.heap.size) (hmS : m < S) (hx : Ext w w') : NestIn (g + 1) w'.heap.size 2 frL w' kv ks ∧ True := by
  obtain ⟨vs, h1, h2, h3, h4⟩ := h
  have := hx.size
  exact ⟨⟨vs, h1, (OwnRows.rowsIn oneL_len (OwnRows.ext h2 hx)).mono (by omega) (Nat.le_refl _), fun i u xs a b => ((h4 i u xs a b).ext hx).mono (by omega) (by omega)⟩, trivial⟩
def StackP (g m tb kb : Nat) (sv : Value) (ss : List ByteArray) (ks : List (List (Int × Int))) (l : List (Int × Int)) (w : World) (e : Ending) (w' : World) : Prop :=
  e = .returned (.int .i64 (Tb.lays ss.length ks l).2) ∧ ∃ kv', w'.heap[g]? = some (.cells (bookV sv kv' tb kb) 50 (0, 0)) ∧ RowsIn (g + 1) w'.heap.size 1 strL w' sv ss ∧ NestIn (g + 1) w'.heap.size 2 frL w' kv' (Tb.lays ss.length ks l).1 ∧ But (fun i => i = g ∨ i = m) w w'
set_option maxRecDepth 100000 in
set_option maxHeartbeats 4000000 in
theorem istack_any (g m tb kb S : Nat) (ss : List ByteArray) (ks : List (List (Int × Int))) (l : List (Int × Int)) (sv kv u : Value) (w : World) (h : BookS w g tb kb S ss sv kv) (hn : NestO w m S kv ks) (hgm : g < m) (hmS : m < S) (hkm : MapQ stackKind intKind 0 w kb ks.length (Tb.idx ks)) (hu : RowsIn S w.heap.size 2 frL w u l) (hk : ks.length ≤ 10000) (hl : ss.length ≤ 10000) :
    Calls Try.prog 27 #[.pointer (some ⟨g, 0, none⟩), u] w (StackP g m tb kb sv ss ks l w) := by
  obtain ⟨A, c, rfl, hc⟩ := (OwnRows.rows strL_len h.own).form
  obtain ⟨B, d, rfl, hd⟩ := hn.nest.form
  obtain ⟨C, q, rfl, hq⟩ := hu.rows.form
  have HB := Lib.hid h
  have HN := Lib.hid hn
  have HU := Lib.hid hu
  have HKM := Lib.hid hkm
  have HSW : Hid (m < w.heap.size) := Lib.hid (by have := h.sz; omega)
  have HC := Lib.hid (maystack_any _ l ss.length w hu.rows (by omega))
  obtain ⟨b0, b1, b2, b3⟩ := cells4 h.row
  obtain ⟨f0, f1, f2, f3⟩ := frozen4 h.row
  have HSTAY : Hid (∀ w', Ext w w' → ∃ kv', w'.heap[g]? = some (.cells (bookV (.slice A ss.length c) kv' tb kb) 50 (0, 0)) ∧ RowsIn (g + 1) w'.heap.size 1 strL w' (.slice A ss.length c) ss ∧ NestIn (g + 1) w'.heap.size 2 frL w' kv' ks ∧ But (fun i => i = g ∨ i = m) w w') := Lib.hid fun w' hx =>
    ⟨_, hx.blk HB.out.row, ((OwnRows.rowsIn strL_len HB.out.own).ext hx).mono (by have := HB.out.gS; omega) hx.size, (HN.out.nestIn hgm HB.out.sz hmS hx).1, But.ext hx⟩
  clear h hn hu hkm
  by_cases hm : Tb.mayK ss.length l = true
  · have HKD := Lib.hid (Tb.keyed_of hm (by omega))
    rw [hm] at HC
    obtain ⟨x0, x1, x2, hkv⟩ : ∃ x0 x1 x2, Tb.keyV l = .agg #[.int .i64 x0, .int .i64 x1, .string x2] := ⟨_, _, _, rfl⟩
    have HKV := Lib.hid hkv
    obtain ⟨n, hnn⟩ : ∃ n, Tb.idx ks l = n := ⟨_, rfl⟩
    have HNN := Lib.hid hnn
    clear hkv hnn
    go_enter Try.func27, Try.ntmps27
    go_wp2_with fail
    refine HC.out.mono ?_
    rintro e w1 ⟨rfl, hx1⟩
    have HX1 := Lib.hid hx1
    have HB1 := Lib.hid (hx1.blk HB.out.row)
    have HKM1 := Lib.hid (HKM.out.ext hx1)
    have HU1 := Lib.hid (HU.out.rows.ext hx1)
    clear hx1 b0 b1 b2 b3 f0 f1 f2 f3
    go_upto_region 3 with fail
    refine region_rgx ([(5, (fun u => u = .agg #[.int .i64 x0, .int .i64 x1, .string x2] : Value → Prop), (fun _ _ => True : (Nat → GV) → World → Prop))]) (w1) (by kernel_rfl) (by kernel_rfl) ?_ ?_ ?_
    · exact List.forall_mem_cons.2 ⟨⟨⟨_, rfl⟩, fun _ _ _ _ _ => trivial, fun _ _ _ _ _ => trivial⟩, List.forall_mem_nil _⟩
    · first | assumption | exact Ext.refl _
    refine rg_pure (v := ?_) rfl (by kernel_rfl) (by kernel_rfl) (fun w hS hN => ?_) ?_
    rotate_left 1
    · clear hN
      go_simp
      refine givesP_mk ?_
      with_reducible rfl
    refine rg_pure (v := ?_) rfl (by kernel_rfl) (by kernel_rfl) (fun w hS hN => ?_) ?_
    rotate_left 1
    · clear hN
      go_simp
      refine givesP_mk ?_
      with_reducible rfl
    refine rg_pure (v := ?_) rfl (by kernel_rfl) (by kernel_rfl) (fun w hS hN => ?_) ?_
    rotate_left 1
    · clear hN
      go_simp
      refine givesP_mk ?_
      with_reducible rfl
    refine rg_pure (v := ?_) rfl (by kernel_rfl) (by kernel_rfl) (fun w hS hN => ?_) ?_
    rotate_left 1
    · have k0 : w.cell? ⟨g, 3, none⟩ = some (.map (some kb)) := blk_cell (hS.blk HB1.out) 3 _ rfl
      clear hN
      go_simp
      refine givesP_mk ?_
      with_reducible rfl
    refine rg_pure (v := ?_) rfl (by kernel_rfl) (by kernel_rfl) (fun w hS hN => ?_) ?_
    rotate_left 1
    · clear hN
      go_simp
      refine givesP_mk ?_
      with_reducible rfl
    refine rg_mem (fun u => u = .agg #[.int .i64 x0, .int .i64 x1, .string x2] : Value → Prop) (fun _ _ => True : (Nat → GV) → World → Prop) (fun _ => Ext) rfl rfl rfl rfl (by kernel_rfl) (by kernel_rfl) (fun w hS hN R hR => ?_) ?_
    · have HR := Lib.hid hR
      clear hR
      (try clear hN)
      go_simp
      refine givesM_call ((key_any _ l w (HU1.out.ext hS) HKD.out).mono ?_)
      rintro e w' ⟨rfl, hx⟩
      exact ⟨_, rfl, HR.out _ _ HKV.out trivial hx⟩
    rintro u5 s5 t5 rfl
    refine rg_pure (v := ?_) rfl (by kernel_rfl) (by kernel_rfl) (fun w hS hN => ?_) ?_
    rotate_left 1
    · have k0 := look_stack (HKM1.out.ext hS) l HKD.out
      rw [HKV.out, HNN.out] at k0
      clear hN
      go_simp
      refine givesP_mk ?_
      with_reducible rfl
    refine rg_pure (v := ?_) rfl (by kernel_rfl) (by kernel_rfl) (fun w hS hN => ?_) ?_
    rotate_left 1
    · clear hN
      go_simp
      refine givesP_mk ?_
      with_reducible rfl
    refine rg_done rfl (Nat.le_of_ble_eq_true (by kernel_rfl)) ?_
    intro w2 hS hT
    have HB2 := Lib.hid (hS.blk HB1.out)
    have HX2 := Lib.hid (HX1.out.trans hS)
    clear hS hT
    obtain ⟨b0, b1, b2, b3⟩ := cells4 HB2.out
    obtain ⟨f0, f1, f2, f3⟩ := frozen4 HB2.out
    go_simp
    by_cases hin : l ∈ ks
    · have hpos : 0 < n := by rw [← HNN.out]; exact Tb.idx_pos.2 hin
      have HT : Hid (StackP g m tb kb (.slice A ss.length c) ss ks l w (.returned (.int .i64 n)) w2) := Lib.hid (by
        unfold StackP Tb.lays
        rw [if_pos hm, if_pos hin]
        exact ⟨by simp only [HNN.out], HSTAY.out w2 HX2.out⟩)
      go_wp2
      go_ret
      exact HT.out
    · obtain rfl : 0 = n := by rw [← HNN.out]; exact (Tb.idx_zero.2 hin).symm
      by_cases hf : ks.length = 10000
      · have hfi : ((ks.length : Int) == 10000) = true := by rw [hf]; rfl
        have HT : Hid (StackP g m tb kb (.slice A ss.length c) ss ks l w (.returned (.int .i64 0)) w2) := Lib.hid (by
          unfold StackP Tb.lays
          rw [if_pos hm, if_neg hin, if_pos hf]
          exact ⟨rfl, HSTAY.out w2 HX2.out⟩)
        go_wp2
        go_ret
        exact HT.out
      · have hfi : ((ks.length : Int) == 10000) = false := by simp; omega
        have HT : Hid (Tb.lays ss.length ks l = (ks ++ [l], (ks.length : Int) + 1)) := Lib.hid (by
          unfold Tb.lays
          rw [if_pos hm, if_neg hin, if_neg hf])
        obtain ⟨i0, I0, I1, I2, I3⟩ := info_parts Try.infoRow
        obtain ⟨vs, hvl, hvo, hvm, hvr⟩ := HN.out
        obtain ⟨B0, d0, hvv, hvd⟩ := (OwnRows.rows oneL_len hvo).form
        have hz2 := HX2.out.size
        have hbase : m ≤ (w2.alloc (.cells #[.slice C l.length q] 46)).heap.size := by have := HSW.out; simp; omega
        obtain ⟨v', w3, hr, ho0, hg, hbk⟩ := own_append2 (P := Try.prog) (e := 46) 23 Try.underlying23 I0 I1 I2 I3 rfl (by decide) (OwnRows.ext hvo (HX2.out.alloc (.cells #[.slice C l.length q] 46))) (A := some ⟨w2.heap.size, 0, none⟩) (m := 1) 1 (news := [.slice C l.length q]) rfl (fun _ => ⟨_, rfl, fun j u hj => by
          have hj0 : j = 0 := by have := (List.getElem?_eq_some_iff.1 hj).1; simpa using this
          subst hj0
          simp only [List.getElem?_cons_zero, Option.some.injEq] at hj
          subst hj
          rw [Addr.add_lit, Nat.zero_add, World.cell?_alloc_new]
          rfl⟩) (fun u hu => by simp at hu; subst hu; rfl) (by unfold maxLen; omega) (by omega) hbase
        have HR := Lib.hid hr
        have ho : OwnRows 46 1 oneL w3 m v' (vs ++ [.slice C l.length q]) := by
          unfold OwnRows
          rw [List.length_append, List.flatMap_append]
          exact ho0
        have hlen : (vs ++ [Value.slice C l.length q]).length = ks.length + 1 := by simp [hvl]
        obtain ⟨A', c', rfl, hc'⟩ := (OwnRows.rows oneL_len ho).form
        rw [hlen] at ho hc' hr HR
        have hmm : ∀ k, (Value.slice B ks.length d).ownBlock = some k → k = m := hvm
        have hg1 : w3.heap[g]? = some (.cells (bookV (.slice A ss.length c) (.slice B ks.length d) tb kb) 50 (0, 0)) := (hg.block g (by have := blk_lt HB2.out; simp; omega) (fun e => by have := hmm g e.symm; omega)).trans (blk_alloc HB2.out _)
        have hb3 : But (fun i => i = g ∨ i = m) w2 w3 := ⟨hg.os, hg.tape, hg.output, Nat.le_trans (by simp) hg.size, fun i hi hn => (hg.block i (by simp; omega) (fun e => hn (.inr (hmm i e.symm)))).trans (Below.heap_alloc w2 _ i hi)⟩
        have HB3 := Lib.hid hb3
        have HG1 := Lib.hid hg1
        have HO := Lib.hid ho
        have HVL := Lib.hid hvl
        have HVR := Lib.hid hvr
        obtain ⟨p0, p1, p2, p3⟩ := cells4 hg1
        obtain ⟨r0, r1, r2, r3⟩ := frozen4 hg1
        clear hr ho ho0 hg hbk hg1 hb3 I0 I1 I2 I3 hvl hvo hvm hvr hvv hmm hlen
        go_wp2_with (at_builtin; refine wpList_append_run rfl _ _ 23 rfl _ _ rfl rfl HR.out ?_)
        go_ret
        unfold StackP
        rw [HT.out]
        have hux := (Upd.refl g w3).set 1 (.slice A' (ks.length + 1) c')
        have hb : But (fun i => i = g ∨ i = m) w _ := ((But.ext HX2.out).trans HB3.out).trans (But.upd (S := fun i => i = g ∨ i = m) hux (.inl rfl))
        have hgS := HB.out.gS
        refine ⟨rfl, .slice A' (ks.length + 1) c', blk_set HG1.out 1 _, ((OwnRows.rowsIn strL_len HB.out.own).but hb fun b h1 _ h2 => by omega).mono (by omega) hb.size, ⟨vs ++ [.slice C l.length q], by simp [HVL.out], ?_, ?_⟩, hb⟩
        · refine (OwnRows.rowsIn (B := m) (e := 46) oneL_len (World.ownsRow.kept HO.out hux ?_)).mono (by omega) (Nat.le_refl _)
          cases hv : (Value.slice A' (ks.length + 1) c').ownBlock with
          | none => exact .inl rfl
          | some z => right; have := (OwnRows.lt HO.out z hv).1; intro he; injection he; omega
        · intro i u xs hi hxs
          by_cases hlt : i < vs.length
          · rw [List.getElem?_append_left hlt] at hi
            rw [List.getElem?_append_left (by rw [← HVL.out]; exact hlt)] at hxs
            exact ((HVR.out i u xs hi hxs).but hb fun b h1 _ h2 => by omega).mono (by omega) (by have := HB.out.sz; have := hb.size; omega)
          · have h3 : i = vs.length := by
              have := (List.getElem?_eq_some_iff.1 hi).1
              simp at this
              omega
            subst h3
            rw [List.getElem?_append_right (Nat.le_refl _), Nat.sub_self] at hi
            rw [HVL.out, List.getElem?_append_right (Nat.le_refl _), Nat.sub_self] at hxs
            simp only [List.getElem?_cons_zero, Option.some.injEq] at hi hxs
            subst hi hxs
            exact (HU.out.but hb fun b h1 _ h2 => by omega).mono (by omega) hb.size
  · have HT : Hid (∀ w', Ext w w' → StackP g m tb kb (.slice A ss.length c) ss ks l w (.returned (.int .i64 0)) w') := Lib.hid fun w' hx => by
      unfold StackP Tb.lays
      rw [if_neg hm]
      exact ⟨rfl, HSTAY.out w' hx⟩
    rw [Bool.eq_false_iff.2 hm] at HC
    go_enter Try.func27, Try.ntmps27
    go_wp2_with fail
    refine HC.out.mono ?_
    rintro e w1 ⟨rfl, hx1⟩
    go_wp2
    go_ret
    exact HT.out _ hx1

end Go.Proofs.Ythkalaohaholaaa
