/-
  Contracts of package wire's writers, and of the strings.Builder that they use.
-/
import Derived.Test.YthkogcgdikgkaaaWa
import Derived.Test.YthkogcgdikgkaaaSh
set_option linter.unusedVariables false
set_option linter.unusedSimpArgs false
namespace Go.Proofs.Ythkogcgdikgkaaa
open Go.RowKit

theorem Try.infoBuilder : (Try.prog.info? 61).map (fun j => j.size) = some 2 := by kernel_rfl
theorem Try.liesBuilder : liesAt Try.prog Try.prog.depth 61 (2 / Try.prog.cellsOf 61) 0 61 1 = true := by kernel_rfl

set_option maxRecDepth 100000 in
set_option maxHeartbeats 1000000 in
theorem check_used (b : Nat) (w : World) (h0 : w.cell? ⟨b, 0, none⟩ = some (.pointer (some ⟨b, 0, none⟩))) :
    Calls Try.prog 39 #[.pointer (some ⟨b, 0, none⟩)] w fun e w' => e = .returned (.tuple #[]) ∧ w = w' := by
  obtain ⟨j, hj, _⟩ := Option.map_eq_some_iff.1 Try.infoBuilder
  go_enter Try.func39, Try.ntmps39
  go_wp2
  rw [Lib.run_neq_ptr_same w _ Try.underlying58 hj]
  go_wp2
  go_end0
  exact ⟨rfl, rfl⟩
set_option maxRecDepth 100000 in
set_option maxHeartbeats 1000000 in
theorem check_fresh (b : Nat) (w : World) (h0 : w.cell? ⟨b, 0, none⟩ = some (.pointer none)) (hsh : w.shape? b = some (61, 2)) (hfz : w.frozen? ⟨b, 0, none⟩ = false) :
    Calls Try.prog 39 #[.pointer (some ⟨b, 0, none⟩)] w fun e w' => e = .returned (.tuple #[]) ∧ w.setCell ⟨b, 0, none⟩ (.pointer (some ⟨b, 0, none⟩)) = w' := by
  obtain ⟨j, hj, hjs⟩ := Option.map_eq_some_iff.1 Try.infoBuilder
  go_enter Try.func39, Try.ntmps39
  go_wp2
  rw [Lib.run_to_unsafe w ⟨b, 0, none⟩ Try.underlying58 Try.underlying81 hj (by rw [hjs]; decide) hsh (Nat.zero_lt_succ 1)]
  simp only [Result.andThen]
  rw [Oper.upon_value]
  go_wp2
  rw [run_callFunc_extern Try.func42 (by kernel_rfl) (by kernel_rfl) (by kernel_rfl) (e := Extern.AbiNoEscape.same) (by kernel_rfl)]
  rw [Lib.run_noEscape]
  simp only [Result.andThen]
  rw [Oper.upon_value]
  go_wp2
  rw [Lib.run_from_unsafe w ⟨b, 0, none⟩ Try.underlying81 Try.underlying58 hj hsh Try.liesBuilder]
  simp only [Result.andThen]
  rw [Oper.upon_value]
  go_wp2
  go_end0
  exact ⟨rfl, rfl⟩
theorem check_any (B b : Nat) (bs : List Value) (w : World) (h : Lib.IsBuilder 61 5 B b bs w) :
    Calls Try.prog 39 #[.pointer (some ⟨b, 0, none⟩)] w fun e w' => e = .returned (.tuple #[]) ∧ Lib.BuilderAt 61 5 B b (.pointer (some ⟨b, 0, none⟩)) bs w' ∧ Below B w w' := by
  rcases h with h | h
  · refine (check_fresh b w h.cell0 h.shape h.frozen0).mono ?_
    rintro e w' ⟨rfl, rfl⟩
    exact ⟨rfl, h.used _, (Below.refl B w).setCell (p := ⟨b, 0, none⟩) h.1 _⟩
  · refine (check_used b w h.cell0).mono ?_
    rintro e w' ⟨rfl, rfl⟩
    exact ⟨rfl, h, Below.refl B _⟩

set_option maxRecDepth 100000 in
set_option maxHeartbeats 1000000 in
theorem write_any (B b : Nat) (l : List UInt8) (s : ByteArray) (w : World) (h : Lib.IsBuilder 61 5 B b (Lib.byteCells l) w) (hlen : l.length + s.size ≤ 140737488355328) (hB0 : B ≤ w.heap.size) :
    Calls Try.prog 29 #[.pointer (some ⟨b, 0, none⟩), .string s] w fun e w' => e = .returned (.tuple #[.int .i64 s.size, .nilIface]) ∧ Lib.IsBuilder 61 5 B b (Lib.byteCells (l ++ s.data.toList)) w' ∧ Below B w w' := by
  obtain ⟨i0, hi, hz0, hz1, hz2⟩ := info_parts Try.infoU8
  go_enter Try.func29, Try.ntmps29
  go_wp2_with fail
  refine (check_any B b _ _ h).mono ?_
  rintro e w1 ⟨rfl, h1, hb1⟩
  obtain ⟨hB, v, hbk, hown, hne⟩ := h1
  have c1 : w1.cell? ⟨b, 1, none⟩ = some v := by rw [Lib.cell_of_heap hbk]; rfl
  go_wp2_with (at_builtin; refine Lib.wpList_append_own_string _ rfl _ _ 59 9 rfl B 5 i0 Try.underlying59 Try.underlying9 hi hz0 hz1 hz2 _ _ _ rfl hown s rfl ?c3 ?c4 ?c5 ?_)
  case c3 => rw [Lib.byteCells_length]; unfold maxLen; omega
  case c4 => rw [Lib.byteCells_length]; omega
  case c5 => have := hb1.size; omega
  intro v' w2 hown' hgrow _
  have hlt : b < w1.heap.size := (Array.getElem?_eq_some_iff.1 hbk).1
  have hb2 : w2.heap[b]? = some (.cells #[.pointer (some ⟨b, 0, none⟩), v] 61 (0, 0)) := (hgrow.block b hlt (fun e => hne e.symm)).trans hbk
  have d1 : w2.cell? ⟨b, 1, none⟩ = some v := by rw [Lib.cell_of_heap hb2]; rfl
  have f1 : w2.frozen? ⟨b, 1, none⟩ = false := Lib.frozen_of_heap hb2 1
  obtain ⟨ao, n', cap, rfl⟩ : ∃ ao n' cap, v' = .slice ao n' cap := by
    rcases hown'.2 with ⟨hv, _⟩ | ⟨g, cap, cur, hv, _⟩
    · exact ⟨_, _, _, hv⟩
    · exact ⟨_, _, _, hv⟩
  go_wp2
  go_ret2
  refine ⟨rfl, .inr ?_, ?_⟩
  · rw [Lib.byteCells_append, ← Lib.strCells_eq]
    exact Lib.BuilderAt.put hB hb2 (by simpa [Lib.strCells_length] using hown') (by decide)
  · exact (hb1.grown hgrow (by have := hb1.size; omega) (fun k hk => (hown.lt k hk).1)).setCell (p := ⟨b, 1, none⟩) hB _

/-- The bytes of numbers, one behind the other, if each has some. -/
def Wi.numsL : List Int → Option (List UInt8)
  | [] => some []
  | x :: r => if 0 ≤ x ∧ x < 4611686018427387904 then (Wi.numsL r).map (Va.put x.toNat ++ ·) else none
def Wi.nums (l : List Int) : ByteArray := match Wi.numsL l with | some b => ⟨b.toArray⟩ | none => ⟨#[]⟩
def Wi.ok (x : Int) : Prop := 0 ≤ x ∧ x < 4611686018427387904
def Wi.cat (l : List Int) : List UInt8 := (l.map fun x => Va.put x.toNat).flatten
theorem Wi.numsL_ok : ∀ l : List Int, (∀ x ∈ l, Wi.ok x) → Wi.numsL l = some (Wi.cat l)
  | [], _ => rfl
  | x :: r, h => by
    have h1 : 0 ≤ x ∧ x < 4611686018427387904 := h x (by simp)
    simp only [Wi.numsL]
    rw [if_pos h1, Wi.numsL_ok r (fun y hy => h y (by simp [hy]))]
    rfl
theorem Wi.numsL_no : ∀ l : List Int, (∃ x ∈ l, ¬ Wi.ok x) → Wi.numsL l = none
  | [], h => by obtain ⟨x, hx, _⟩ := h; simp at hx
  | x :: r, h => by
    simp only [Wi.numsL]
    by_cases h1 : 0 ≤ x ∧ x < 4611686018427387904
    · rw [if_pos h1, Wi.numsL_no r ?_]
      · rfl
      · obtain ⟨y, hy, hn⟩ := h
        rcases List.mem_cons.1 hy with rfl | hy
        · exact absurd h1 hn
        · exact ⟨y, hy, hn⟩
    · rw [if_neg h1]
theorem Wi.cat_snoc (l : List Int) (x : Int) : Wi.cat (l ++ [x]) = Wi.cat l ++ Va.put x.toNat := by simp [Wi.cat]
theorem Wi.cat_len : ∀ l : List Int, (∀ x ∈ l, Wi.ok x) → (Wi.cat l).length ≤ 9 * l.length
  | [], _ => by simp [Wi.cat]
  | x :: r, h => by
    have h1 : 0 ≤ x ∧ x < 4611686018427387904 := h x (by simp)
    have := Wi.cat_len r (fun y hy => h y (by simp [hy]))
    have h9 := Va.puts_nine h1.1 h1.2
    rw [Va.puts_size] at h9
    simp only [Wi.cat, List.map_cons, List.flatten_cons, List.length_append, List.length_cons] at *
    omega

theorem isBuilder_ext {T e : TypeId} {B b : Nat} {bs : List Value} {w w' : World} (h : Lib.IsBuilder T e B b bs w) (hx : Ext w w') (_ : B ≤ w.heap.size) : Lib.IsBuilder T e B b bs w' := by
  have one : ∀ p, Lib.BuilderAt T e B b p bs w → Lib.BuilderAt T e B b p bs w' := fun p h => by
    have hlt := h.lt
    obtain ⟨hB, v, hb, hown, hne⟩ := h
    refine ⟨hB, v, (hx.block b hlt).trans hb, ⟨hown.1, ?_⟩, hne⟩
    rcases hown.2 with h0 | ⟨g, cap, cur, hv, hg, hh, r⟩
    · exact .inl h0
    · exact .inr ⟨g, cap, cur, hv, hg, (hx.block g (Array.getElem?_eq_some_iff.1 hh).1).trans hh, r⟩
  exact h.imp (one _) (one _)

set_option maxRecDepth 100000 in
set_option maxHeartbeats 1000000 in
theorem nums_any (v : Value) (xs : List Int) (w : World) (h : IntsAt w v xs) (hn : xs.length ≤ 1000000) :
    Calls Try.prog 30 #[v] w fun e w' => e = .returned (.string (Wi.nums xs)) ∧ Ext w w' := by
  obtain ⟨A, c, rfl, hA⟩ := h
  have HA := Lib.hid hA; clear hA
  have HF := Lib.hid (Lib.fresh_isBuilder 61 5 w)
  go_enter Try.func30, Try.ntmps30
  go_wp2
  go_loopw [10] (fun i wr => ∃ k : Nat, k ≤ xs.length ∧ i = .int .i64 k ∧ (∀ x ∈ xs.take k, Wi.ok x) ∧ Lib.IsBuilder 61 5 w.heap.size w.heap.size (Lib.byteCells (Wi.cat (xs.take k))) wr ∧ Ext w wr ∧ w.heap.size + 1 ≤ wr.heap.size) (fun i _ => xs.length - (intOf i).toNat)
  case atStart => exact ⟨0, by omega, rfl, by simp, HF.out, Ext.alloc (Ext.refl _) _, by simp⟩
  case round =>
    obtain ⟨k, hk, rfl, hall, hbd, hx, hsz⟩ := hrel
    have HB := Lib.hid hbd; clear hbd
    have HL := Lib.hid hall; clear hall
    by_cases hlt : k < xs.length
    · obtain ⟨b, o, rfl, hb, hc⟩ := HA.out (by omega)
      have hcell : wr.cell? ⟨b, o + k, none⟩ = some (.int .i64 xs[k]) := by
        rw [Below.cell hx hb]; exact hc k _ (List.getElem?_eq_getElem hlt)
      clear hc
      have htk : xs.take (k + 1) = xs.take k ++ [xs[k]] := by rw [List.take_succ_eq_append_getElem hlt]
      have HT := Lib.hid htk; clear htk
      by_cases ho : Wi.ok xs[k]
      · obtain ⟨o1, o2⟩ := ho
        have O1 := Lib.hid o1
        have O2 := Lib.hid o2
        have hne := Va.puts_ne xs[k].toNat
        have hnn := Va.puts_nn xs[k].toNat
        clear o1 o2
        have H9 : (Va.puts xs[k].toNat).size ≤ 9 := Va.puts_nine O1.out O2.out
        go_wp2_with fail
        refine (put_str _ _ O1.out O2.out).mono ?_
        rintro e w1 ⟨rfl, hx1⟩
        have HB1 : Hid (Lib.IsBuilder 61 5 w.heap.size w.heap.size (Lib.byteCells (Wi.cat (xs.take k))) w1) := Lib.hid (isBuilder_ext HB.out hx1 (by omega))
        go_wp2_with fail
        refine (write_any _ _ _ _ _ HB1.out (by have := Wi.cat_len _ HL.out; rw [List.length_take] at this; omega) (by have := hx1.size; omega)).mono ?_
        rintro e w2 ⟨rfl, hb2, hbl⟩
        go_wp2
        go_roundw
        case rel =>
          refine ⟨k + 1, by omega, by go_num, ?_, ?_, ?_, ?_⟩
          · rw [HT.out]
            intro x hx
            rcases List.mem_append.1 hx with hx | hx
            · exact HL.out x hx
            · rw [List.mem_singleton.1 hx]; exact ⟨O1.out, O2.out⟩
          · rw [HT.out, Wi.cat_snoc]
            rw [Va.puts_list] at hb2
            exact hb2
          · exact Below.trans (hx.trans hx1) hbl
          · have := hx1.size; have := hbl.size; omega
        case measure => simp [intOf]; omega
      · have HO := Lib.hid ho; clear ho
        have HNO : Hid (Wi.nums xs = ⟨#[]⟩) := Lib.hid (by unfold Wi.nums; rw [Wi.numsL_no xs ⟨xs[k], List.getElem_mem hlt, HO.out⟩])
        go_wp2_with fail
        refine (put_no _ _ (by have := HO.out; unfold Wi.ok at this; omega)).mono ?_
        rintro e w1 ⟨rfl, rfl⟩
        go_wp2
        go_ret
        rw [HNO.out]
        exact ⟨rfl, hx⟩
    · obtain rfl : k = xs.length := by omega
      have HNO : Hid (Wi.nums xs = ⟨(Wi.cat xs).toArray⟩) := Lib.hid (by
        unfold Wi.nums
        rw [Wi.numsL_ok xs (by have := HL.out; rwa [List.take_length] at this)])
      have HB2 : Hid (Lib.IsBuilder 61 5 w.heap.size w.heap.size (Lib.byteCells (Wi.cat xs)) wr) := Lib.hid (by have := HB.out; rwa [List.take_length] at this)
      go_wp2_with (go_at_call 31; refine (Try.Builder_String_any _ _ _ _ HB2.out (by omega)).mono ?_; rintro e w2 ⟨rfl, hbl⟩)
      go_ret
      rw [HNO.out]
      exact ⟨rfl, Below.trans hx hbl⟩

end Go.Proofs.Ythkogcgdikgkaaa
