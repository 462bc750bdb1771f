/-
  The contract of intern's key.
-/
import Derived.Test.YthkalaohaholaaaId
import Derived.Deep.RegionWith
set_option linter.unusedVariables false
set_option linter.unusedSimpArgs false
namespace Go.Proofs.Ythkalaohaholaaa
open Go.RowKit Go.Maps

theorem Tb.tail_next {l : List (Int × Int)} {k : Nat} (h : k < (l.drop 1).length) : Tb.tail (l.take (k + 2)) = Tb.tail (l.take (k + 1)) ++ [(l.drop 1)[k].1, (l.drop 1)[k].2] := by
  cases l with
  | nil => simp at h
  | cons x l =>
    have e1 : ∀ n, ((x :: l).take (n + 1)).drop 1 = l.take n := fun n => rfl
    have h' : k < l.length := h
    unfold Tb.tail
    rw [e1, e1, List.take_succ_eq_append_getElem h', List.flatMap_append]
    rfl
theorem Tb.keyed_take {l : List (Int × Int)} (h : Tb.keyed l) (k : Nat) : ∀ x ∈ Tb.tail (l.take k), Wi.ok x := fun x hx => by
  obtain ⟨f, hf, hx⟩ := List.mem_flatMap.1 hx
  have := h.2.2 f (List.mem_of_mem_take (List.mem_of_mem_drop hf))
  simp only [List.mem_cons, List.not_mem_nil, or_false] at hx
  rcases hx with rfl | rfl
  · exact this.1
  · exact this.2
theorem check_upd (B b : Nat) (bs : List Value) (w : World) (h : Lib.IsBuilder 70 5 B b bs w) :
    Calls Try.prog 41 #[.pointer (some ⟨b, 0, none⟩)] w fun e w' => e = .returned (.tuple #[]) ∧ Lib.BuilderAt 70 5 B b (.pointer (some ⟨b, 0, none⟩)) bs w' ∧ Upd b w w' := by
  rcases h with h | h
  · refine (check_fresh b w h.cell0 h.shape h.frozen0).mono ?_
    rintro e w' ⟨rfl, rfl⟩
    exact ⟨rfl, h.used _, (Upd.refl b w).set 0 _⟩
  · refine (check_used b w h.cell0).mono ?_
    rintro e w' ⟨rfl, rfl⟩
    exact ⟨rfl, h, Upd.refl b _⟩
set_option maxRecDepth 100000 in
set_option maxHeartbeats 1000000 in
/-- A text written to a builder: a block of another kind stays. -/
theorem write_far (B b : Nat) (l : List UInt8) (s : ByteArray) (w : World) (h : Lib.IsBuilder 70 5 B b (Lib.byteCells l) w) (hlen : l.length + s.size ≤ 140737488355328) (hB0 : B ≤ w.heap.size) (n : Nat) (cs : Array Value) (T : TypeId) (hn : w.heap[n]? = some (.cells cs T (0, 0))) (hT : T ≠ 5) (hnb : n ≠ b) :
    Calls Try.prog 38 #[.pointer (some ⟨b, 0, none⟩), .string s] w fun e w' => e = .returned (.tuple #[.int .i64 s.size, .nilIface]) ∧ Lib.IsBuilder 70 5 B b (Lib.byteCells (l ++ s.data.toList)) w' ∧ Below B w w' ∧ w'.heap[n]? = some (.cells cs T (0, 0)) := by
  obtain ⟨i0, hi, hz0, hz1, hz2⟩ := info_parts Try.infoU8
  go_enter Try.func38, Try.ntmps38
  go_wp2_with fail
  refine (check_upd B b _ _ h).mono ?_
  rintro e w1 ⟨rfl, h1, hu1⟩
  obtain ⟨hB, v, hbk, hown, hne⟩ := h1
  have hn1 := hu1.blk hn hnb
  have hb1 : Below B w w1 := ⟨hu1.os, hu1.tape, hu1.output, hu1.size, fun i hi => by
    by_cases hlt : i < w.heap.size
    · exact hu1.block i hlt (fun e => by injection e with e; omega)
    · omega⟩
  have hnv : v.ownBlock ≠ some n := fun e => by
    rcases hown.2 with ⟨rfl, _⟩ | ⟨g, cap, cur, rfl, _, hg, _⟩
    · cases e
    · simp only [Value.ownBlock, Option.some.injEq] at e
      subst e
      rw [hn1] at hg
      simp only [Option.some.injEq, Obj.cells.injEq] at hg
      exact hT hg.2.1
  have HN1 := Lib.hid hn1
  clear hn hn1 hu1
  have c1 : w1.cell? ⟨b, 1, none⟩ = some v := by rw [Lib.cell_of_heap hbk]; rfl
  go_wp2_with (at_builtin; refine Lib.wpList_append_own_string _ rfl _ _ 68 9 rfl B 5 i0 Try.underlying68 Try.underlying9 hi hz0 hz1 hz2 _ _ _ rfl hown s rfl ?c3 ?c4 ?c5 ?_)
  case c3 => rw [Lib.byteCells_length]; unfold maxLen; omega
  case c4 => rw [Lib.byteCells_length]; omega
  case c5 => have := hb1.size; omega
  intro v' w2 hown' hgrow _
  have hlt : b < w1.heap.size := (Array.getElem?_eq_some_iff.1 hbk).1
  have hb2 : w2.heap[b]? = some (.cells #[.pointer (some ⟨b, 0, none⟩), v] 70 (0, 0)) := (hgrow.block b hlt (fun e => hne e.symm)).trans hbk
  have d1 : w2.cell? ⟨b, 1, none⟩ = some v := by rw [Lib.cell_of_heap hb2]; rfl
  have f1 : w2.frozen? ⟨b, 1, none⟩ = false := Lib.frozen_of_heap hb2 1
  have HN2 : Hid (w2.heap[n]? = _) := Lib.hid ((hgrow.block n (blk_lt HN1.out) (fun e => hnv e.symm)).trans HN1.out)
  obtain ⟨ao, n', cap, rfl⟩ : ∃ ao n' cap, v' = .slice ao n' cap := by
    rcases hown'.2 with ⟨hv, _⟩ | ⟨g, cap, cur, hv, _⟩
    · exact ⟨_, _, _, hv⟩
    · exact ⟨_, _, _, hv⟩
  go_wp2
  go_ret2
  refine ⟨rfl, .inr ?_, ?_, ?_⟩
  · rw [Lib.byteCells_append, ← Lib.strCells_eq]
    exact Lib.BuilderAt.put hB hb2 (by simpa [Lib.strCells_length] using hown') (by decide)
  · exact (hb1.grown hgrow (by have := hb1.size; omega) (fun k hk => (hown.lt k hk).1)).setCell (p := ⟨b, 1, none⟩) hB _
  · exact blk_set_other HN2.out ⟨b, 1, none⟩ (Ne.symm hnb) _
set_option maxRecDepth 100000 in
set_option maxHeartbeats 4000000 in
theorem key_any (v : Value) (l : List (Int × Int)) (w : World) (h : RowsAt 2 frL w v l) (hk : Tb.keyed l) :
    Calls Try.prog 34 #[v] w fun e w' => e = .returned (Tb.keyV l) ∧ Ext w w' := by
  obtain ⟨A, c, rfl, hc⟩ := h.form
  have HH := Lib.hid h
  have HK := Lib.hid hk
  have h1 := hk.1
  have h100 := hk.2.1
  obtain ⟨b, o, rfl, hb, hcell⟩ := h.cell (by omega)
  obtain ⟨B, hB⟩ : ∃ B, (if c = 1 then some (⟨b, o, none⟩ : Addr) else some ⟨b, o + 2, none⟩) = B := ⟨_, rfl⟩
  have HP : Hid (RowsAt 2 frL w (.slice B (l.length - 1) (c - 1)) (l.drop 1)) := Lib.hid (by
    have := h.part 1 l.length h1 (Nat.le_refl _) B (c - 1) (by omega) (fun hlt => by rw [← hB, if_neg (by omega)]; rfl)
    rwa [List.take_of_length_le (by rw [List.length_drop]; exact Nat.le_refl _)] at this)
  have HF := Lib.hid (Lib.fresh_isBuilder 70 5 (w.alloc (.cells #[.int .i64 0, .int .i64 0, .string ⟨#[]⟩] 62)))
  have hs1 : (w.alloc (.cells #[.int .i64 0, .int .i64 0, .string ⟨#[]⟩] 62)).heap.size = w.heap.size + 1 := by simp
  rw [hs1] at HF
  clear h hk hcell
  go_enter Try.func34, Try.ntmps34
  go_wp2
  go_loopw [10] (fun i wr => ∃ k : Nat, k ≤ l.length - 1 ∧ i = .int .i64 k ∧ Lib.IsBuilder 70 5 (w.heap.size + 1) (w.heap.size + 1) (Lib.byteCells (Wi.cat (Tb.tail (l.take (k + 1))))) wr ∧ Below (w.heap.size + 1) (w.alloc (.cells #[.int .i64 0, .int .i64 0, .string ⟨#[]⟩] 62)) wr ∧ w.heap.size + 2 ≤ wr.heap.size) (fun i _ => l.length - (intOf i).toNat)
  case atStart =>
    refine ⟨0, by omega, rfl, ?_, ?_, by simp⟩
    · have e : Tb.tail (l.take (0 + 1)) = [] := by
        match l, h1 with
        | x :: l, _ => rfl
      rw [e]
      exact HF.out
    · exact (Below.refl _ _).alloc (by simp) _
  case round =>
    obtain ⟨k, hk, rfl, hbd, hx, hsz⟩ := hrel
    have HB := Lib.hid hbd
    clear hbd
    have HXR := Lib.hid hx
    have HX : Hid (Ext w wr) := Lib.hid (Below.trans ((Ext.refl w).alloc _) (hx.mono (by omega)))
    by_cases hlt : k < l.length - 1
    · have hld : k < (l.drop 1).length := by rw [List.length_drop]; exact hlt
      obtain ⟨b', o', rfl, hb', hcell⟩ := (HP.out.ext HX.out).cell (by omega)
      have c0 := hcell k (l.drop 1)[k] (List.getElem?_eq_getElem hld) 0 _ rfl
      have c1 := hcell k (l.drop 1)[k] (List.getElem?_eq_getElem hld) 1 _ rfl
      have HT := Lib.hid (Tb.tail_next hld)
      have HO : Hid (Wi.ok (l.drop 1)[k].1 ∧ Wi.ok (l.drop 1)[k].2) := Lib.hid (HK.out.2.2 _ (List.mem_of_mem_drop (List.getElem_mem hld)))
      simp only [Nat.add_zero] at c0
      clear hcell hx
      generalize (l.drop 1)[k] = f at *
      obtain ⟨f0, f1⟩ := f
      simp only at *
      have HTO := Lib.hid (Tb.keyed_take HK.out (k + 1))
      have HLT := Lib.hid (Tb.tail_len (l.take (k + 1)))
      have hxa : Ext wr (wr.alloc (.cells #[.int .i64 f0, .int .i64 f1] 54)) := (Ext.refl wr).alloc _
      have HB0 : Hid (Lib.IsBuilder 70 5 (w.heap.size + 1) (w.heap.size + 1) _ _) := Lib.hid (isBuilder_ext HB.out hxa (by omega))
      have HX0 := Lib.hid (HXR.out.trans (hxa.mono (show w.heap.size + 1 ≤ wr.heap.size by omega)))
      have hz0 : w.heap.size + 2 ≤ (wr.alloc (.cells #[.int .i64 f0, .int .i64 f1] 54)).heap.size := by simp; omega
      have q0 := blk_new wr (.cells #[.int .i64 f0, .int .i64 f1] 54)
      obtain ⟨w0, hw0⟩ : ∃ w0, wr.alloc (.cells #[.int .i64 f0, .int .i64 f1] 54) = w0 := ⟨_, rfl⟩
      rw [hw0] at HB0 HX0 hz0 q0
      have HQ0 := Lib.hid q0
      have r0 := blk_cell HQ0.out 0 _ rfl
      have r1 := blk_cell HQ0.out 1 _ rfl
      have HW0 := Lib.hid hw0
      have hn0 := Va.puts_ne f0.toNat
      have hm0 := Va.puts_nn f0.toNat
      have hn1 := Va.puts_ne f1.toNat
      have hm1 := Va.puts_nn f1.toNat
      clear hw0 hxa q0 HB HX
      obtain ⟨n, hn⟩ : ∃ n, wr.heap.size = n := ⟨_, rfl⟩
      rw [hn] at HQ0 r0 r1
      have HN := Lib.hid hn
      go_wp2_with fail
      rw [HW0.out]
      have HPRE : Hid ((Wi.cat (Tb.tail (l.take (k + 1)))).length ≤ 1800) := Lib.hid (by
        have h1 := Wi.cat_len _ HTO.out
        rw [HLT.out, List.length_take] at h1
        omega)
      obtain ⟨PR, hpr⟩ : ∃ PR, Wi.cat (Tb.tail (l.take (k + 1))) = PR := ⟨_, rfl⟩
      have HCN : Hid (Wi.cat (Tb.tail (l.take (k + 2))) = PR ++ Va.put f0.toNat ++ Va.put f1.toNat) := Lib.hid (by
        rw [HT.out, ← hpr]
        simp [Wi.cat])
      have H9 : Hid ((Va.puts f0.toNat).size ≤ 9) := Lib.hid (Va.puts_nine HO.out.1.1 HO.out.1.2)
      have H8 : Hid ((Va.puts f1.toNat).size ≤ 9) := Lib.hid (Va.puts_nine HO.out.2.1 HO.out.2.2)
      rw [hpr] at HB0 HPRE
      clear hpr
      have HZ0 := Lib.hid hz0
      refine (put_str _ _ HO.out.1.1 HO.out.1.2).mono ?_
      rintro e w1 ⟨rfl, hx1⟩
      have HB1 : Hid (Lib.IsBuilder 70 5 (w.heap.size + 1) (w.heap.size + 1) _ _) := Lib.hid (isBuilder_ext HB0.out hx1 (by omega))
      have hz1 := hx1.size
      have HX1 := Lib.hid (HX0.out.trans (hx1.mono (show w.heap.size + 1 ≤ w0.heap.size by omega)))
      have HQ1 := Lib.hid (hx1.blk HQ0.out)
      clear hx1 r0 r1 HQ0
      go_wp2_with fail
      refine (write_far _ _ _ _ _ HB1.out (by have := HPRE.out; have := H9.out; omega) (by omega) n _ _ HQ1.out (by decide) (by omega)).mono ?_
      rintro e w2 ⟨rfl, hb2, hx2, hq2⟩
      have HB2 := Lib.hid hb2
      have hz2 := hx2.size
      have HX2 := Lib.hid (HX1.out.trans hx2)
      have HQ2 := Lib.hid hq2
      have r1 := blk_cell HQ2.out 1 _ rfl
      clear hb2 hx2 hq2
      go_wp2_with fail
      refine (put_str _ _ HO.out.2.1 HO.out.2.2).mono ?_
      rintro e w3 ⟨rfl, hx3⟩
      have HB3 : Hid (Lib.IsBuilder 70 5 (w.heap.size + 1) (w.heap.size + 1) _ _) := Lib.hid (isBuilder_ext HB2.out hx3 (by omega))
      have hz3 := hx3.size
      have HX3 := Lib.hid (HX2.out.trans (hx3.mono (show w.heap.size + 1 ≤ w2.heap.size by omega)))
      clear hx3 r1
      go_wp2_with fail
      refine (write_any _ _ _ _ _ HB3.out (by have := HPRE.out; have := H8.out; have := H9.out; simp; omega) (by omega)).mono ?_
      rintro e w4 ⟨rfl, hb4, hx4⟩
      have HB4 := Lib.hid hb4
      have hz4 := hx4.size
      have HX4 := Lib.hid (HX3.out.trans hx4)
      clear hb4 hx4
      go_wp2
      go_roundw
      case rel =>
        refine ⟨k + 1, by omega, by go_num, ?_, HX4.out, by omega⟩
        have := HB4.out
        rw [Va.puts_list, Va.puts_list, ← HCN.out] at this
        exact this
      case measure => simp [intOf]; omega
    · obtain rfl : k = l.length - 1 := by omega
      have HLL : Hid (Tb.tail (l.take (l.length - 1 + 1)) = Tb.tail l) := Lib.hid (by rw [show l.length - 1 + 1 = l.length by omega, List.take_length])
      rw [HLL.out] at HB
      have h0 : ∃ f, l[0]? = some f ∧ l.headD (0, 0) = f := by
        match l, h1 with
        | x :: l, _ => exact ⟨x, rfl, rfl⟩
      obtain ⟨f, hf, hfd⟩ := h0
      obtain ⟨f0, f1⟩ := f
      have HC : Hid (w.cell? ⟨b, o, none⟩ = some (.int .i64 f0) ∧ w.cell? ⟨b, o + 1, none⟩ = some (.int .i64 f1)) := Lib.hid (by
        obtain ⟨b2, o2, hbo, _, hcell⟩ := HH.out.cell (by omega)
        simp only [Option.some.injEq, Addr.mk.injEq, and_true] at hbo
        obtain ⟨rfl, rfl⟩ := hbo
        have c0 := hcell 0 _ hf 0 _ rfl
        have c1 := hcell 0 _ hf 1 _ rfl
        simp only [Nat.zero_mul, Nat.add_zero] at c0 c1
        exact ⟨c0, c1⟩)
      have hq : wr.heap[w.heap.size]? = some (.cells #[.int .i64 0, .int .i64 0, .string ⟨#[]⟩] 62) := (hx.block _ (by omega)).trans (blk_new w _)
      have HQ := Lib.hid hq
      have HFD := Lib.hid hfd
      have c0 : wr.cell? ⟨b, o, none⟩ = some (.int .i64 f0) := by rw [Below.cell HX.out hb]; exact HC.out.1
      have c1 : wr.cell? ⟨b, o + 1, none⟩ = some (.int .i64 f1) := by rw [Below.cell HX.out hb]; exact HC.out.2
      have C0 := Lib.hid c0
      have C1 := Lib.hid c1
      have q0 := blk_cell hq 0 _ rfl
      have q1 := blk_cell hq 1 _ rfl
      have q2 := blk_cell hq 2 _ rfl
      have y0 := frozen_of_row _ _ 0 _ _ hq
      have y1 := frozen_of_row _ _ 1 _ _ hq
      have y2 := frozen_of_row _ _ 2 _ _ hq
      clear hx hf hfd hq
      have hbl0 : Lib.IsBuilder 70 5 (w.heap.size + 1) (w.heap.size + 1) (Lib.byteCells (Wi.cat (Tb.tail l))) wr.drew := HB.out
      have HBD := Lib.hid hbl0
      clear hbl0
      have HSD : Hid (w.heap.size + 1 ≤ wr.drew.heap.size) := Lib.hid (show w.heap.size + 1 ≤ wr.heap.size by omega)
      have HCD : Hid (∀ w2, Below (w.heap.size + 1) wr.drew w2 → (w2.cell? ⟨b, o, none⟩ = some (.int .i64 f0) ∧ w2.cell? ⟨b, o + 1, none⟩ = some (.int .i64 f1)) ∧ w2.heap[w.heap.size]? = some (.cells #[.int .i64 0, .int .i64 0, .string ⟨#[]⟩] 62)) := Lib.hid fun w2 hb2 =>
        ⟨⟨(Below.cell hb2 (show b < w.heap.size + 1 by omega)).trans C0.out, (Below.cell hb2 (show b < w.heap.size + 1 by omega)).trans C1.out⟩, (hb2.block _ (by omega)).trans HQ.out⟩
      go_wp2_with fail
      go_region_with (go_at_call 40; refine (Try.Builder_String_any _ _ _ _ HBD.out HSD.out).mono ?_; rintro e w2 ⟨rfl, hx2⟩; obtain ⟨⟨d0, d1⟩, hq2⟩ := HCD.out w2 hx2; have q0 := blk_cell hq2 0 _ rfl; have q1 := blk_cell hq2 1 _ rfl; have q2 := blk_cell hq2 2 _ rfl; have y0 := frozen_of_row _ _ 0 _ _ hq2; have y1 := frozen_of_row _ _ 1 _ _ hq2; have y2 := frozen_of_row _ _ 2 _ _ hq2)
      all_goals
        have hz := blk_set (blk_set (blk_set hq2 0 (.int .i64 f0)) 1 (.int .i64 f1)) 2 (.string ⟨(Wi.cat (Tb.tail l)).toArray⟩)
        have HZ := Lib.hid hz
        have HX2 : Hid (Ext w w2) := Lib.hid (Below.trans HX.out (Below.trans (((Ext.refl wr).drewN 1).mono (show w.heap.size ≤ wr.heap.size by omega)) (hx2.mono (by omega))))
        clear hz
        go_wp2
        (try simp only [Exit.inBlock, Exit.then])
        refine bodyPost_ret (v := Tb.keyV l) ?_ rfl ⟨rfl, ?_⟩
        · unfold Tb.keyV
          rw [HFD.out]
          exact results_cell_row rfl _ _ w.heap.size _ _ _ _ rfl HZ.out Try.underlying62 rfl (by kernel_rfl)
        · exact HX2.out.upd (((Upd.refl w.heap.size w2).set 0 _).set 1 _ |>.set 2 _) (Nat.le_refl _)
end Go.Proofs.Ythkalaohaholaaa
