/-
  The walk of the statement SleepMany.
-/
import Derived.Test.YtonnpmgnbmbooaaSi
set_option linter.unusedVariables false
set_option linter.unusedSimpArgs false
namespace Go.Proofs.Ytonnpmgnbmbooaa
open Go.RowKit

/-- So many timers of one time, their Gs from one on. -/
def Sl.row (t : Int) (a k : Nat) : List (Int × Int) := (List.range k).map fun j => (t, ((a + j : Nat) : Int))
theorem Sl.row_len (t : Int) (a k : Nat) : (Sl.row t a k).length = k := by simp [Sl.row]
theorem Sl.row_cons (t : Int) (a k : Nat) : Sl.row t a (k + 1) = (t, (a : Int)) :: Sl.row t (a + 1) k := by
  unfold Sl.row
  rw [List.range_succ_eq_map]
  simp [Function.comp_def]
  intro j _
  omega
theorem Sl.row_mem {t : Int} {a k : Nat} {p : Int × Int} (h : p ∈ Sl.row t a k) : p.1 = t ∧ (a : Int) ≤ p.2 ∧ p.2 < a + k := by
  unfold Sl.row at h
  obtain ⟨j, hj, rfl⟩ := List.mem_map.1 h
  have := List.mem_range.1 hj
  exact ⟨rfl, by simp only; omega, by simp only; omega⟩
theorem Sl.row_may {t : Int} (h0 : 0 ≤ t) (h1 : t < 4611686018427387904) : ∀ (k a : Nat), 1 ≤ a → Sl.May (Sl.row t a k)
  | 0, a, _ => by unfold Sl.row; exact Sl.May.nil
  | k + 1, a, ha => by
    have ih := Sl.row_may h0 h1 k (a + 1) (by omega)
    rw [Sl.row_cons]
    refine ⟨fun p hp => ?_, List.pairwise_cons.2 ⟨fun q hq => ?_, ih.2.1⟩, ?_⟩
    · rcases List.mem_cons.1 hp with rfl | hp
      · unfold Sl.fit; simp only; omega
      · exact ih.1 p hp
    · have := Sl.row_mem hq
      unfold Sl.lt
      simp only
      omega
    · rw [List.map_cons, List.nodup_cons]
      refine ⟨fun hm => ?_, ih.2.2⟩
      obtain ⟨q, hq, he⟩ := List.mem_map.1 hm
      have := Sl.row_mem hq
      simp only at he
      omega
theorem Sl.row_ins (t : Int) (a k : Nat) : Sl.ins (Sl.row t (a + 1) k) (t, (a : Int)) = Sl.row t a (k + 1) := by
  have h : 0 = Sl.at (Sl.row t (a + 1) k) (t, (a : Int)) := Sl.at_eq (Nat.zero_le _) fun q hq => by
    have := Sl.row_mem (List.mem_of_getElem? hq)
    unfold Sl.lt
    simp only
    omega
  unfold Sl.ins
  rw [← h, Sl.row_cons]
  simp
theorem Sl.row_due (t : Int) (a k : Nat) : Sl.due (Sl.row t a k) t = (List.range k).map (fun j => ((a + j : Nat) : Int)) ∧ Sl.left (Sl.row t a k) t = [] := by
  have h : k = Sl.many (Sl.row t a k) t := by
    have h2 := Sl.many_le (Sl.row t a k) t
    rw [Sl.row_len] at h2
    have : ∀ j, j ≤ k → j ≤ Sl.many (Sl.row t a k) t := by
      intro j
      induction j with
      | zero => intro _; omega
      | succ j ih =>
        intro hj
        have hq := List.getElem?_eq_getElem (l := Sl.row t a k) (i := j) (by rw [Sl.row_len]; omega)
        exact Sl.many_next (ih (by omega)) hq (by rw [(Sl.row_mem (List.mem_of_getElem? hq)).1]; omega)
    have := this k (Nat.le_refl _)
    omega
  unfold Sl.due Sl.left
  rw [← h]
  refine ⟨?_, ?_⟩
  · rw [List.take_of_length_le (by rw [Sl.row_len]; omega)]
    unfold Sl.row
    simp
  · exact List.drop_eq_nil_of_le (by rw [Sl.row_len]; omega)
theorem Sl.row_none (t : Int) (a k : Nat) : Sl.due (Sl.row t a k) (t - 1) = [] ∧ Sl.left (Sl.row t a k) (t - 1) = Sl.row t a k := by
  have h : 0 = Sl.many (Sl.row t a k) (t - 1) := Sl.many_eq (Nat.zero_le _) fun q hq => by
    rw [(Sl.row_mem (List.mem_of_getElem? hq)).1]; omega
  unfold Sl.due Sl.left
  rw [← h]
  exact ⟨rfl, rfl⟩
theorem Sl.row_i64 {t : Int} {a k : Nat} (h0 : 0 ≤ t) (h1 : t ≤ 1000000) (ha : a ≤ 100) (hk : k ≤ 100) : ∀ p ∈ Sl.row t a k, i64ok p.1 ∧ i64ok p.2 := by
  intro p hp
  have := Sl.row_mem hp
  unfold i64ok
  omega
/-- The numbers from one on. -/
def Sl.nums (k : Nat) : List Int := (List.range k).map fun j => ((1 + j : Nat) : Int)
theorem Sl.nums_len (k : Nat) : (Sl.nums k).length = k := by simp [Sl.nums]
theorem Sl.nums_succ (k : Nat) : Sl.nums (k + 1) = Sl.nums k ++ [((k : Int) + 1)] := by
  unfold Sl.nums
  rw [List.range_succ, List.map_append]
  simp
  omega
theorem pairs_made (v : World) : PairsAt (v.alloc (.cells #[] 24)) (.slice (some ⟨v.heap.size, 0, none⟩) 0 0) [] := ⟨_, 0, rfl, Nat.le_refl _, fun h => by simp at h⟩
theorem PairsAt.own_lt {w : World} {v : Value} {xs : List (Int × Int)} (h : PairsAt w v xs) (h0 : 0 < xs.length) : ∀ b, v.ownBlock = some b → b < w.heap.size := by
  intro b hb
  obtain ⟨A, c, rfl, _, hA⟩ := h
  obtain ⟨b', o, rfl, hlt, _⟩ := hA h0
  simp only [Value.ownBlock, Option.some.injEq] at hb
  omega
theorem PairsAt.grown {w w' : World} {v : Value} {xs : List (Int × Int)} {row : Option Nat} (h : PairsAt w v xs) (hg : w.grownBy w' row) (hne : v.ownBlock = none ∨ v.ownBlock ≠ row) : PairsAt w' v xs := by
  obtain ⟨A, c, rfl, hc, hA⟩ := h
  refine ⟨A, c, rfl, hc, fun h0 => ?_⟩
  obtain ⟨b, o, rfl, hlt, hcell⟩ := hA h0
  have hb : some b ≠ row := by
    rcases hne with h | h
    · simp [Value.ownBlock] at h
    · exact h
  exact ⟨b, o, rfl, Nat.lt_of_lt_of_le hlt hg.size, fun j p hj => ⟨hg.cell (hcell j p hj).1 hb, hg.cell (hcell j p hj).2 hb⟩⟩
set_option maxRecDepth 100000 in
set_option maxHeartbeats 1000000 in
theorem smany_out (n t : Int) (w : World) (h : n < 1 ∨ (1 ≤ n ∧ (40 < n ∨ (n ≤ 40 ∧ (t < 1 ∨ (1 ≤ t ∧ 1000000 < t)))))) : Calls Try.prog 5 #[.int .i64 n, .int .i64 t] w fun e w' => e = .returned (.bool true) ∧ Ext w w' := by
  rcases h with h | ⟨h0, h | ⟨h1, h | ⟨h2, h3⟩⟩⟩
  all_goals
    go_enter Try.func5, Try.ntmps5
    go_wp2_with fail
    refine (sfixed_yes _).mono ?_
    rintro r w1 ⟨rfl, hx1⟩
    go_wp2_with fail
    refine (sfixed_yes _).mono ?_
    rintro r w2 ⟨rfl, hx2⟩
    go_wp2
    go_ret
    exact ⟨rfl, hx1.trans hx2⟩
set_option maxRecDepth 100000 in
set_option maxHeartbeats 1000000 in
theorem smany_in (n : Nat) (t : Int) (w : World) (h1 : 1 ≤ n) (h2 : n ≤ 40) (h3 : 1 ≤ t) (h4 : t ≤ 1000000) : Calls Try.prog 5 #[.int .i64 n, .int .i64 t] w fun e w' => e = .returned (.bool true) ∧ Ext w w' := by
  obtain ⟨i0, I0', I1', I2', I3'⟩ := info_parts Try.infoInt
  have I0 := Lib.hid I0'
  have I1 := Lib.hid I1'
  have I2 := Lib.hid I2'
  have I3 := Lib.hid I3'
  clear I0' I1' I2' I3'
  go_enter Try.func5, Try.ntmps5
  go_wp2_with fail
  refine (sfixed_yes _).mono ?_
  rintro r w1 ⟨rfl, hx1⟩
  have HX1 := Lib.hid hx1
  clear hx1
  go_wp2
  go_loopw [5, 6, 7] (fun lv wv i wr => ∃ (k : Nat) (l u : Value), k ≤ n ∧ i = .int .i64 ((k : Int) + 1) ∧ l = lv ∧ u = wv ∧ PairsAt wr l (Sl.row t (n + 1 - k) k) ∧ OwnInts wr w.heap.size u (Sl.nums k) ∧ Ext w wr ∧ (l.ownBlock = none ∨ l.ownBlock ≠ u.ownBlock)) (fun _ _ i _ => n + 1 - (intOf i).toNat)
  case atStart =>
    refine ⟨0, _, _, by omega, by simp, rfl, rfl, ?_, ?_, (HX1.out.alloc _).alloc _, .inr (by simp [Value.ownBlock])⟩
    · exact (pairs_made w1).ext ((Ext.refl _).alloc _)
    · have := World.ownsRow_made (base := w.heap.size) (e := 3) (size := 1) (w1.alloc (.cells #[] 24)) #[] 0 (by have := HX1.out.size; simp; omega) (by decide) rfl
      rwa [World.size_alloc] at this
  case round =>
    obtain ⟨k, l, u, hk, rfl, rfl, rfl, hp, ho, hx, hlu⟩ := hrel
    have HLU := Lib.hid hlu
    clear hlu
    have HP := Lib.hid hp
    have HO := Lib.hid ho
    have HX := Lib.hid hx
    clear hp ho hx HX1
    by_cases hlt : k < n
    · have hs : (n : Int) + 1 - ((k : Int) + 1) = ((n - k : Nat) : Int) := by omega
      have HS : Hid (Sl.ins (Sl.row t (n + 1 - k) k) (t, (((n - k : Nat) : Int))) = Sl.row t (n - k) (k + 1)) := Lib.hid (by
        have := Sl.row_ins t (n - k) k
        rwa [show n - k + 1 = n + 1 - k by omega] at this)
      have HMY : Hid (Sl.May (Sl.row t (n - k) (k + 1))) := Lib.hid (Sl.row_may (by omega) (by omega) _ _ (by omega))
      have HRI : Hid (∀ p ∈ Sl.row t (n + 1 - k) k, i64ok p.1 ∧ i64ok p.2) := Lib.hid (Sl.row_i64 (by omega) (by omega) (by omega) (by omega))
      have hi64 : i64ok t ∧ i64ok ((n - k : Nat) : Int) := by unfold i64ok; omega
      have HII := Lib.hid hi64
      clear hi64
      go_wp2_with fail
      refine (sput_yes _ (Sl.row t (n + 1 - k) k) (Sl.row t (n - k) (k + 1)) t _ _ HP.out (by rw [Sl.row_len]; omega) HRI.out HII.out HS.out HMY.out).mono ?_
      rintro r w2 ⟨A2, c2, rfl, hp2, hx2, hnb⟩
      have HP2 := Lib.hid hp2
      have HX2 := Lib.hid (HX.out.trans hx2)
      have HO2 := Lib.hid (OwnInts.ext HO.out hx2)
      have HSN := Lib.hid (Sl.nums_succ k)
      have HNL := Lib.hid (Sl.nums_len k)
      have HNE : Hid (∀ b, (Value.slice A2 (Sl.row t (n - k) (k + 1)).length c2).ownBlock = some b → u.ownBlock ≠ some b ∧ b < w2.heap.size) := Lib.hid fun b hb => ⟨fun hu => by have := (World.ownsRow.lt HO.out b hu).2; have := hnb b hb; omega, hp2.own_lt (by rw [Sl.row_len]; omega) b hb⟩
      clear hp2 hx2 hs hnb
      have hwz := HX2.out.size
      go_wp2_with (at_builtin; refine wpList_append_lies _ rfl _ _ 28 rfl w.heap.size 3 i0 (.int .i64 0) 1 8 Try.underlying28 I0.out I1.out I2.out I3.out rfl (by decide) _ _ _ rfl (OwnInts.alloc HO2.out _) ⟨w2.heap.size, 0, none⟩ 1 1 [.int .i64 ((k : Int) + 1)] rfl rfl ?c1 ?c2 (by decide) ?c3 ?c4 ?c5 _ rfl ?_)
      case c1 => exact one_new w2 _ _
      case c2 => simp [Value.oneCell']
      case c3 => rw [HNL.out]; unfold maxLen; omega
      case c4 => rw [HNL.out]; omega
      case c5 => simp; omega
      intro g3 cap3 w3 hown3 hgrow3 hg3 _
      have HX3 : Hid (Ext w w3) := Lib.hid (Below.grown (HX2.out.alloc _) hgrow3 (by simp; omega) (own_block_le HO2.out))
      have HP3 : Hid (PairsAt w3 (.slice A2 (Sl.row t (n - k) (k + 1)).length c2) (Sl.row t (n - k) (k + 1))) := Lib.hid (by
        refine PairsAt.grown ((HP2.out).ext ((Ext.refl w2).alloc _)) hgrow3 ?_
        cases hb : (Value.slice A2 (Sl.row t (n - k) (k + 1)).length c2).ownBlock with
        | none => exact .inl rfl
        | some b => exact .inr (Ne.symm (HNE.out b hb).1))
      have HLU3 : Hid ((Value.slice A2 (Sl.row t (n - k) (k + 1)).length c2).ownBlock = none ∨ (Value.slice A2 (Sl.row t (n - k) (k + 1)).length c2).ownBlock ≠ (Value.slice (some ⟨g3, 0, none⟩) ((Sl.nums k).length + 1) cap3).ownBlock) := Lib.hid (by
        cases hb : (Value.slice A2 (Sl.row t (n - k) (k + 1)).length c2).ownBlock with
        | none => exact .inl rfl
        | some b =>
          right
          obtain ⟨h5, h6⟩ := HNE.out b hb
          intro he
          simp only [Value.ownBlock, Option.some.injEq] at he
          subst he
          rcases hg3 with h | h
          · exact h5 h
          · first | omega | (simp at h; omega))
      have HO3 : Hid (OwnInts w3 w.heap.size (.slice (some ⟨g3, 0, none⟩) ((Sl.nums k).length + 1) cap3) (Sl.nums (k + 1))) := Lib.hid (by
        rw [HSN.out]
        unfold OwnInts
        rw [List.length_append, intsV_append]
        exact hown3)
      clear hown3 hgrow3 hwz hg3
      go_wp2
      go_roundw
      case rel => exact ⟨k + 1, _, _, by omega, by go_num, rfl, rfl, by rw [show n + 1 - (k + 1) = n - k by omega]; exact HP3.out, HO3.out, HX3.out, HLU3.out⟩
      case measure => simp [intOf]; omega
    · obtain rfl : k = n := by omega
      have e1 : k + 1 - k = 1 := by omega
      rw [e1] at HP
      have HMY : Hid (Sl.May (Sl.row t 1 k)) := Lib.hid (Sl.row_may (by omega) (by omega) _ _ (by omega))
      have HRI : Hid (∀ p ∈ Sl.row t 1 k, i64ok p.1 ∧ i64ok p.2) := Lib.hid (Sl.row_i64 (by omega) (by omega) (by omega) (by omega))
      have HL : Hid ((Sl.row t 1 k).length ≤ 9000) := Lib.hid (by rw [Sl.row_len]; omega)
      have HD : Hid (Sl.due (Sl.row t 1 k) t = Sl.nums k ∧ Sl.left (Sl.row t 1 k) t = []) := Lib.hid (Sl.row_due t 1 k)
      have HE := Lib.hid (Sl.row_none t 1 k)
      have HN : Hid (Sl.next (Sl.row t 1 k) = t) := Lib.hid (by
        unfold Sl.next
        rw [if_pos HMY.out]
        obtain ⟨j, rfl⟩ : ∃ j, k = j + 1 := ⟨k - 1, by omega⟩
        rw [Sl.row_cons])
      have HNL := Lib.hid (Sl.nums_len k)
      clear e1 HLU
      go_wp2_with fail
      refine (sdue_eq _ _ t _ _ HMY.out HD.out.1 HD.out.2 _ HP.out HL.out HRI.out).mono ?_
      rintro r w2 ⟨A2, c2, A2', c2', rfl, hi2, hp2, hx2⟩
      have HI2 := Lib.hid hi2
      have HX2 := Lib.hid hx2
      clear hi2 hp2 hx2
      go_wp2_with fail
      refine (sdue_eq _ _ (t - 1) _ _ HMY.out HE.out.1 HE.out.2 _ (HP.out.ext HX2.out) HL.out HRI.out).mono ?_
      rintro r w3 ⟨A3, c3, A3', c3', rfl, hi3, hp3, hx3⟩
      have HP3 := Lib.hid hp3
      have HX3 := Lib.hid (HX2.out.trans hx3)
      have HI3 := Lib.hid (HI2.out.ext hx3)
      clear hi3 hp3 hx3
      go_wp2_with fail
      refine (rints_eq _ _ (Sl.nums k) (Sl.nums k) true (by simp) _ HI3.out (by obtain ⟨A9, c9, h9, hI9⟩ := (OwnInts.ext HO.out HX3.out).ints; rw [h9]; exact hI9) (by rw [HNL.out]; omega)).mono ?_
      rintro r w4 ⟨rfl, hx4⟩
      have HX4 := Lib.hid (HX3.out.trans hx4)
      have HP4 := Lib.hid (HP3.out.ext hx4)
      clear hx4
      go_wp2_with fail
      refine (rsame_eq _ _ (Sl.row t 1 k) (Sl.row t 1 k) true (by simp) _ HP4.out (HP.out.ext HX4.out) HL.out).mono ?_
      rintro r w5 ⟨rfl, hx5⟩
      have HX5 := Lib.hid (HX4.out.trans hx5)
      clear hx5
      go_wp2_with fail
      refine (snext_any _ (Sl.row t 1 k) t HN.out _ (HP.out.ext HX5.out) HL.out HRI.out).mono ?_
      rintro r w6 ⟨rfl, hx6⟩
      go_wp2
      go_ret
      exact ⟨by simp, HX.out.trans (HX5.out.trans hx6)⟩
theorem walk_SleepMany (n t : Int) (w : World) (hn : (Lit.int .i64 n).wf = true) (ht : (Lit.int .i64 t).wf = true) : Calls Try.prog 5 #[.int .i64 n, .int .i64 t] w fun e w' => e = .returned (.bool true) ∧ Ext w w' := by
  by_cases h : n < 1 ∨ (1 ≤ n ∧ (40 < n ∨ (n ≤ 40 ∧ (t < 1 ∨ (1 ≤ t ∧ 1000000 < t)))))
  · exact smany_out n t w h
  · obtain ⟨m, rfl⟩ : ∃ m : Nat, n = m := ⟨n.toNat, by omega⟩
    exact smany_in m t w (by omega) (by omega) (by omega) (by omega)

end Go.Proofs.Ytonnpmgnbmbooaa
