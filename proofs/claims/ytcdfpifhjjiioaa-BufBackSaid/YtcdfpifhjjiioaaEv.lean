/-
  The contract of the document's Decode, of events of kinds that are known; and in all.
-/
import Derived.Test.YtcdfpifhjjiioaaEu
set_option linter.unusedVariables false
set_option linter.unusedSimpArgs false
namespace Go.Proofs.Ytcdfpifhjjiioaa
open Go.RowKit
set_option maxRecDepth 100000 in
set_option maxHeartbeats 1000000 in
theorem rdec_xok (s : ByteArray) (a n k1 q m k3 q2 : Nat) (k : Int) (w : World) (hs : s.size ≤ maxLen) (h : a < s.size) (hkk : (s[a].toNat : Int) = k) (hk : Ki.known (s[a].toNat : Int) = false) (hx : Ki.exp (s[a].toNat : Int) = true) (hT : Va.take (s.data.toList.drop (a + 1)) = (n, k1, 0)) (hq : a + 1 + k1 = q) (hqs : q ≤ s.size) (hM : Va.take (s.data.toList.drop q) = (m, k3, 0)) (hq2 : q + k3 = q2) (hqs2 : q2 + m ≤ s.size) :
    Calls Try.prog 25 #[.string s, .int .i64 a] w (DecPost (⟨k, n, [], s.extract q2 (q2 + m)⟩, ((q2 + m : Nat) : Int), 0) w) := by
  have HQ2 := Lib.hid hq2
  have HKK := Lib.hid hkk
  clear hq2 hkk
  have HK := Lib.hid hk
  have HX := Lib.hid hx
  have HT := Lib.hid hT
  have HS := Lib.hid hs
  have HQ := Lib.hid hq
  have HM := Lib.hid hM
  clear hk hx hT hq hM
  unfold maxLen at hs
  have hd0 : decide ((a : Int) < 0) = false := by simp
  have hd2 : ((a : Int) == (s.size : Int)) = false := by simp; omega
  have hb : (s[a].toNat : Int) ≤ 255 := by have := s[a].toNat_lt; omega
  have HT0 := Lib.hid ((two_new w).ext ((Ext.refl _).alloc (.cells #[.int .i64 (s[a].toNat : Int), .int .i64 0, .slice none 0 0, .string ⟨#[]⟩] 28)))
  have HB0 : Hid ((((w.alloc ((.cells #[.int .i64 0, .int .i64 0, .slice none 0 0, .string ⟨#[]⟩] 28))).alloc ((.cells #[.int .i64 0, .int .i64 0, .slice none 0 0, .string ⟨#[]⟩] 28))).alloc (.cells #[.int .i64 (s[a].toNat : Int), .int .i64 0, .slice none 0 0, .string ⟨#[]⟩] 28)).heap[w.heap.size + 1 + 1]? = some (.cells #[.int .i64 (s[a].toNat : Int), .int .i64 0, .slice none 0 0, .string ⟨#[]⟩] 28 (0, 0))) := Lib.hid (by have := blk_new ((w.alloc ((.cells #[.int .i64 0, .int .i64 0, .slice none 0 0, .string ⟨#[]⟩] 28))).alloc ((.cells #[.int .i64 0, .int .i64 0, .slice none 0 0, .string ⟨#[]⟩] 28))) (.cells #[.int .i64 (s[a].toNat : Int), .int .i64 0, .slice none 0 0, .string ⟨#[]⟩] 28); rwa [World.size_alloc, World.size_alloc] at this)
  go_enter Try.func25, Try.ntmps25
  go_wp2_with fail
  refine (rknown_eq _ false HK.out _).mono ?_
  rintro r w1 ⟨rfl, rfl⟩
  generalize (s[a].toNat : Int) = k2 at *
  obtain rfl := HKK.out.symm
  go_wp2_with fail
  refine (rexp_eq _ true HX.out _).mono ?_
  rintro r w1 ⟨rfl, rfl⟩
  go_wp2_with fail
  refine (rtake_ok s _ (a + 1) n k1 q _ (by omega) (by omega) HS.out HT.out HQ.out).mono ?_
  rintro r w1 ⟨rfl, hx1⟩
  have HT1 := Lib.hid (HT0.out.ext hx1)
  have HB1 := Lib.hid (hx1.blk HB0.out)
  clear hx1
  have b1 := blk_cell HB1.out 1 (.int .i64 0) rfl
  have f1 := frozen_of_row _ _ 1 _ _ HB1.out
  have HB2 : Hid ((w1.setCell ⟨w.heap.size + 1 + 1, 1, none⟩ (.int .i64 n)).heap[w.heap.size + 1 + 1]? = some (.cells #[.int .i64 k, .int .i64 n, .slice none 0 0, .string ⟨#[]⟩] 28 (0, 0))) := Lib.hid (blk_set HB1.out 1 _)
  have HT2 : Hid (Two w (w1.setCell ⟨w.heap.size + 1 + 1, 1, none⟩ (.int .i64 n))) := Lib.hid (HT1.out.set (by simp) _)
  have d0 := blk_cell HB2.out 0 (.int .i64 k) rfl
  go_wp2_with fail
  refine (rexp_eq _ true HX.out _).mono ?_
  rintro r w2 ⟨rfl, rfl⟩
  clear d0 b1 f1
  go_wp2_with fail
  refine (rtake_ok s _ q m k3 q2 _ rfl hqs HS.out HM.out HQ2.out).mono ?_
  rintro r w3 ⟨rfl, hx3⟩
  have HTW := Lib.hid (HT2.out.ext hx3)
  have HB3 := Lib.hid (hx3.blk HB2.out)
  clear hx3
  have b3 := blk_cell HB3.out 3 (.string ⟨#[]⟩) rfl
  have f3 := frozen_of_row _ _ 3 _ _ HB3.out
  have HB4 : Hid ((w3.setCell ⟨w.heap.size + 1 + 1, 3, none⟩ (.string (s.extract q2 (q2 + m)))).heap[w.heap.size + 1 + 1]? = some (.cells #[.int .i64 k, .int .i64 n, .slice none 0 0, .string (s.extract q2 (q2 + m))] 28 (0, 0))) := Lib.hid (blk_set HB3.out 3 _)
  have HT4 : Hid (Two w (w3.setCell ⟨w.heap.size + 1 + 1, 3, none⟩ (.string (s.extract q2 (q2 + m))))) := Lib.hid (HTW.out.set (by simp) _)
  have x0 := blk_cell HB4.out 0 (.int .i64 k) rfl
  have x1 := blk_cell HB4.out 1 (.int .i64 n) rfl
  have x2 := blk_cell HB4.out 2 (.slice none 0 0) rfl
  have x3 := blk_cell HB4.out 3 (.string (s.extract q2 (q2 + m))) rfl
  have z0 := blk_cell HT4.out.1 0 (.int .i64 0) rfl
  have z1 := blk_cell HT4.out.1 1 (.int .i64 0) rfl
  have z2 := blk_cell HT4.out.1 2 (.slice none 0 0) rfl
  have z3 := blk_cell HT4.out.1 3 (.string ⟨#[]⟩) rfl
  have y0 := frozen_of_row _ _ 0 _ _ HT4.out.1
  have y1 := frozen_of_row _ _ 1 _ _ HT4.out.1
  have y2 := frozen_of_row _ _ 2 _ _ HT4.out.1
  have y3 := frozen_of_row _ _ 3 _ _ HT4.out.1
  have hlt : (m : Int) ≤ (s.size : Int) - (q2 : Int) := by omega
  go_wp2
  clear z0 z1 z2 z3 y0 y1 y2 y3 x0 x1 x2 x3
  have hzz := blk_set (blk_set (blk_set (blk_set HT4.out.1 0 (.int .i64 k)) 1 (.int .i64 n)) 2 (.slice none 0 0)) 3 (.string (s.extract q2 (q2 + m)))
  have t0 := blk_cell hzz 0 (.int .i64 k) rfl
  have t1 := blk_cell hzz 1 (.int .i64 n) rfl
  have t2 := blk_cell hzz 2 (.slice none 0 0) rfl
  have t3 := blk_cell hzz 3 (.string (s.extract q2 (q2 + m))) rfl
  refine bodyPost_ret (v := .tuple #[.agg #[.int .i64 k, .int .i64 n, .slice none 0 0, .string (s.extract q2 (q2 + m))], .int .i64 ((q2 + m : Nat) : Int), .int .i64 0]) (by simp [results, Try.results25, go_sem, t0, t1, t2, t3]) rfl ⟨_, rfl, ⟨none, 0, rfl, ⟨none, 0, rfl, fun h => by simp at h⟩, fun _ _ _ h => by simp at h⟩, ?_⟩
  exact Ext.set4 HT4.out.2.2 _ _ _ _

def Ev.comb (pre : List Int) (c0 : Nat) (r : List Int × Nat × Nat) : List Int × Nat × Nat := if r.2.2 = 0 then (pre ++ r.1, c0 + r.2.1, 0) else ([], 0, r.2.2)
theorem Ev.comb_nil (r : List Int × Nat × Nat) (n : Nat) (L : List UInt8) (h : Ev.takes n L = r) : r = Ev.comb [] 0 r := by
  unfold Ev.comb
  by_cases h0 : r.2.2 = 0
  · rw [if_pos h0]
    obtain ⟨a, b, c⟩ := r
    simp only at h0
    subst h0
    simp
  · rw [if_neg h0, ← h]
    exact Ev.takes_zero n L (by rw [h]; exact h0)
theorem Ev.comb_step (pre : List Int) (c0 n : Nat) (L : List UInt8) (x k : Nat) (h : Va.take L = (x, k, 0)) : Ev.comb pre c0 (Ev.takes (n + 1) L) = Ev.comb (pre ++ [(x : Int)]) (c0 + k) (Ev.takes n (L.drop k)) := by
  unfold Ev.comb
  simp only [Ev.takes, h, if_true]
  by_cases h0 : (Ev.takes n (L.drop k)).2.2 = 0
  · simp [h0]; omega
  · simp [h0]
theorem Ev.comb_err (pre : List Int) (c0 n : Nat) (L : List UInt8) (c : Nat) (h : Va.take L = (0, 0, c)) (hc : c ≠ 0) : Ev.comb pre c0 (Ev.takes (n + 1) L) = ([], 0, c) := by
  unfold Ev.comb
  simp [Ev.takes, h, hc]
/-- What holds at each round's head. -/
def DecAt (s : ByteArray) (k n q0 : Nat) (kk : Int) (w : World) (sl : Value) (j q : Nat) (wr : World) : Prop :=
  ∃ pre : List Int, ∃ c0 : Nat, q = q0 + c0 ∧ q ≤ s.size ∧ pre.length = j ∧ Ev.takes k (s.data.toList.drop q0) = Ev.comb pre c0 (Ev.takes (k - j) (s.data.toList.drop q)) ∧ Two w wr ∧ wr.heap[w.heap.size + 1 + 1]? = some (.cells #[.int .i64 kk, .int .i64 n, sl, .string ⟨#[]⟩] 28 (0, 0)) ∧ OwnInts wr (w.heap.size + 3) sl pre
theorem rargs_len (k : Int) (w : World) : Calls Try.prog 38 #[.int .i64 k] w fun e w' => ∃ A c, e = .returned (.slice A (Ki.args k).length c) ∧ Ext w w' :=
  (rargs_any k w).mono fun _ _ ⟨v, he, A, c, hv, _, _, hx, _⟩ => ⟨A, c, by rw [he, hv], hx⟩
def KnownP (s : ByteArray) (a n q0 : Nat) (k : Int) (r : List Int × Nat × Nat) : Ev × Int × Int := if r.2.2 = 0 then (⟨k, n, r.1, ⟨#[]⟩⟩, ((q0 + r.2.1 : Nat) : Int), 0) else (Ev.zero, 0, (r.2.2 : Int))
set_option maxRecDepth 100000 in
set_option maxHeartbeats 1000000 in
theorem rdec_known (s : ByteArray) (a n k1 q0 : Nat) (k : Int) (w : World) (hs : s.size ≤ maxLen) (h : a < s.size) (hkk : (s[a].toNat : Int) = k) (hk : Ki.known (s[a].toNat : Int) = true) (hT : Va.take (s.data.toList.drop (a + 1)) = (n, k1, 0)) (hq : a + 1 + k1 = q0) (hqs : q0 ≤ s.size) :
    Calls Try.prog 25 #[.string s, .int .i64 a] w (DecPost (KnownP s a n q0 k (Ev.takes (Ki.args k).length (s.data.toList.drop q0))) w) := by
  have HK := Lib.hid hk
  have HX := Lib.hid (Ki.known_exp hk)
  have HT := Lib.hid hT
  have HS := Lib.hid hs
  have HQ := Lib.hid hq
  have hn3 := Ki.args_le k
  have HKK := Lib.hid hkk
  clear hk hT hq hkk
  obtain ⟨i0, hi, hz0, hz1, hz2⟩ := info_parts Try.infoInt
  have I0 := Lib.hid hi
  have I1 := Lib.hid hz0
  have I2 := Lib.hid hz1
  have I3 := Lib.hid hz2
  clear hi hz0 hz1 hz2
  unfold maxLen at hs
  have hd0 : decide ((a : Int) < 0) = false := by simp
  have hd2 : ((a : Int) == (s.size : Int)) = false := by simp; omega
  have hb : (s[a].toNat : Int) ≤ 255 := by have := s[a].toNat_lt; omega
  have HT0 := Lib.hid ((two_new w).ext ((Ext.refl _).alloc (.cells #[.int .i64 (s[a].toNat : Int), .int .i64 0, .slice none 0 0, .string ⟨#[]⟩] 28)))
  have HB0 : Hid ((((w.alloc ((.cells #[.int .i64 0, .int .i64 0, .slice none 0 0, .string ⟨#[]⟩] 28))).alloc ((.cells #[.int .i64 0, .int .i64 0, .slice none 0 0, .string ⟨#[]⟩] 28))).alloc (.cells #[.int .i64 (s[a].toNat : Int), .int .i64 0, .slice none 0 0, .string ⟨#[]⟩] 28)).heap[w.heap.size + 1 + 1]? = some (.cells #[.int .i64 (s[a].toNat : Int), .int .i64 0, .slice none 0 0, .string ⟨#[]⟩] 28 (0, 0))) := Lib.hid (by have := blk_new ((w.alloc ((.cells #[.int .i64 0, .int .i64 0, .slice none 0 0, .string ⟨#[]⟩] 28))).alloc ((.cells #[.int .i64 0, .int .i64 0, .slice none 0 0, .string ⟨#[]⟩] 28))) (.cells #[.int .i64 (s[a].toNat : Int), .int .i64 0, .slice none 0 0, .string ⟨#[]⟩] 28); rwa [World.size_alloc, World.size_alloc] at this)
  go_enter Try.func25, Try.ntmps25
  go_wp2_with fail
  refine (rknown_eq _ true HK.out _).mono ?_
  rintro r w1 ⟨rfl, rfl⟩
  generalize (s[a].toNat : Int) = k2 at *
  obtain rfl := HKK.out.symm
  go_wp2_with fail
  refine (rtake_ok s _ (a + 1) n k1 q0 _ (by omega) (by omega) HS.out HT.out HQ.out).mono ?_
  rintro r w1 ⟨rfl, hx1⟩
  have HT1 := Lib.hid (HT0.out.ext hx1)
  have HB1 := Lib.hid (hx1.blk HB0.out)
  clear hx1
  have b1 := blk_cell HB1.out 1 (.int .i64 0) rfl
  have f1 := frozen_of_row _ _ 1 _ _ HB1.out
  have HB2 : Hid ((w1.setCell ⟨w.heap.size + 1 + 1, 1, none⟩ (.int .i64 n)).heap[w.heap.size + 1 + 1]? = some (.cells #[.int .i64 k, .int .i64 n, .slice none 0 0, .string ⟨#[]⟩] 28 (0, 0))) := Lib.hid (blk_set HB1.out 1 _)
  have HT2 : Hid (Two w (w1.setCell ⟨w.heap.size + 1 + 1, 1, none⟩ (.int .i64 n))) := Lib.hid (HT1.out.set (by simp) _)
  have d0 := blk_cell HB2.out 0 (.int .i64 k) rfl
  go_wp2_with fail
  refine (rexp_eq _ false HX.out _).mono ?_
  rintro r w2 ⟨rfl, rfl⟩
  go_wp2_with fail
  refine (rargs_len k _).mono ?_
  rintro r w2 ⟨A, c, rfl, hx2⟩
  have HT3 := Lib.hid (HT2.out.ext hx2)
  have HB3 := Lib.hid (hx2.blk HB2.out)
  clear d0 b1 f1 hx2 HB2 HT2 HB1 HT1
  have HPOST : Hid (Ev.takes (Ki.args k).length (s.data.toList.drop q0) = Ev.takes (Ki.args k).length (s.data.toList.drop q0)) := Lib.hid rfl
  generalize hml : (Ki.args k).length = m at *
  have HML := Lib.hid hml
  clear hml
  go_wp2
  go_loopw [10, 16] (fun qv i wr => ∃ (j q : Nat) (sl : Value), j ≤ m ∧ i = .int .i64 j ∧ qv = .int .i64 q ∧ DecAt s m n q0 k w sl j q wr) (fun _ i _ => m - (intOf i).toNat)
  case atStart => exact ⟨0, q0, _, by omega, rfl, rfl, [], 0, rfl, hqs, rfl, Ev.comb_nil _ _ _ rfl, HT3.out, HB3.out, OwnInts.nil _ _⟩
  case round =>
    obtain ⟨j, q, sl, hj, rfl, rfl, pre, c0, hqc, hqz, hpl, htk, htw, hbk, hown⟩ := hrel
    have HTK := Lib.hid htk
    have HQC := Lib.hid hqc
    have HPL := Lib.hid hpl
    have HTW := Lib.hid htw
    have HBK := Lib.hid hbk
    have HOW := Lib.hid hown
    clear htk hqc hpl htw hbk hown HT3 HB3
    by_cases hlt : j < m
    · rcases htt : Va.take (s.data.toList.drop q) with ⟨x, kk, cc⟩
      by_cases hcc : cc = 0
      · subst hcc
        have hkz : q + kk ≤ s.size := by
          have := Va.take_size (L := s.data.toList.drop q) (by rw [htt])
          rw [htt, List.length_drop] at this
          simp at this; omega
        have HTT := Lib.hid htt
        clear htt
        generalize hq2 : q + kk = q2 at *
        have HQ2 := Lib.hid hq2
        clear hq2
        go_wp2_with fail
        refine (rtake_ok s _ q x kk q2 _ rfl hqz HS.out HTT.out HQ2.out).mono ?_
        rintro r w4 ⟨rfl, hx4⟩
        have HTW4 := Lib.hid (HTW.out.ext hx4)
        have HBK4 := Lib.hid (hx4.blk HBK.out)
        have HOW4 := Lib.hid (HOW.out.ext hx4)
        clear hx4
        have b2 := blk_cell HBK4.out 2 sl rfl
        have hsz4 := HTW4.out.sz
        have hlt8 := blk_lt HBK4.out
        go_wp2_with (at_builtin; refine wpList_append_own _ rfl _ _ 26 rfl (w.heap.size + 3) 3 i0 (.int .i64 0) 1 8 Try.underlying26 I0.out I1.out I2.out I3.out rfl (by decide) sl pre.length (intsV pre) rfl (HOW4.out.alloc _) ⟨w4.heap.size, 0, none⟩ 1 1 [.int .i64 x] rfl rfl ?c1 ?c2 ?c3 ?c4 ?c5 ?_)
        case c1 => exact one_new _ _ _
        case c2 => simp [Value.oneCell']
        case c3 => have := HPL.out; unfold maxLen; omega
        case c4 => have := HPL.out; omega
        case c5 => simp; omega
        intro v' w5 hown5 hgrow _
        have hne : ∀ r, sl.ownBlock = some r → w.heap.size + 3 ≤ r := fun r hr => (World.ownsRow.lt HOW4.out r hr).1
        have keep : ∀ b o, b < w.heap.size + 3 → (w4.alloc (.cells #[.int .i64 x] 3)).heap[b]? = some o → w5.heap[b]? = some o := fun b o hb ho => (hgrow.block b (blk_lt ho) (fun e => by have := hne b e.symm; omega)).trans ho
        have HB5 : Hid (w5.heap[w.heap.size + 1 + 1]? = some (.cells #[.int .i64 k, .int .i64 n, sl, .string ⟨#[]⟩] 28 (0, 0))) := Lib.hid (keep _ _ (by omega) (blk_alloc HBK4.out _))
        have HT5 : Hid (Two w w5) := Lib.hid ⟨keep _ _ (by omega) (blk_alloc HTW4.out.1 _), keep _ _ (by omega) (blk_alloc HTW4.out.2.1 _), Below.grown (HTW4.out.2.2.alloc _) hgrow (by have := HTW4.out.2.2.size; simp; omega) (fun r hr => by have := hne r hr; omega)⟩
        have HO5 : Hid (OwnInts w5 (w.heap.size + 3) v' (pre ++ [(x : Int)])) := Lib.hid (by unfold OwnInts; rw [intsV_snoc, List.length_append]; exact hown5)
        obtain ⟨A', c', hv'⟩ := HO5.out.form
        subst hv'
        have b2' := blk_cell HB5.out 2 sl rfl
        have f2' := frozen_of_row _ _ 2 _ _ HB5.out
        clear b2 hown5 hgrow keep hne HTW4 HBK4 HOW4 hsz4 hlt8
        go_wp2
        go_roundw
        case rel =>
          have hh := HO5.out
          rw [List.length_append, List.length_singleton] at hh
          refine ⟨j + 1, q2, _, by omega, by go_num, rfl, pre ++ [(x : Int)], c0 + kk, by have := HQC.out; have := HQ2.out; omega, hkz, by have := HPL.out; simp; omega, ?_, HT5.out.set (by simp) _, blk_set HB5.out 2 _, hh.kept (g := w.heap.size + 1 + 1) (setCell_row (World.grownBy.refl _ _) 2 _) (by omega)⟩
          rw [HTK.out, show m - j = (m - (j + 1)) + 1 by omega, Ev.comb_step _ _ _ _ _ _ HTT.out, List.drop_drop, HQ2.out]
        case measure => simp [intOf]; omega
      · obtain ⟨rfl, rfl⟩ : x = 0 ∧ kk = 0 := by
          have := Va.take_zero (L := s.data.toList.drop q) (by rw [htt]; exact hcc)
          rw [htt] at this
          simpa using this
        have HTT := Lib.hid htt
        have HCC := Lib.hid hcc
        have hc1 : ((cc : Int) == 0) = false := by simp; omega
        have hc2 : ((cc : Int) != 0) = true := by simp; omega
        have HFIN : Hid (KnownP s a n q0 k (Ev.takes m (s.data.toList.drop q0)) = (Ev.zero, 0, (cc : Int))) := Lib.hid (by
          unfold KnownP
          rw [HTK.out, show m - j = (m - (j + 1)) + 1 by omega, Ev.comb_err _ _ _ _ _ htt hcc]
          simp [hcc])
        clear htt hcc
        go_wp2_with fail
        refine (rtake_err s _ q cc _ rfl hqz HS.out HTT.out HCC.out).mono ?_
        rintro r w4 ⟨rfl, hx4⟩
        have HTW := Lib.hid (HTW.out.ext hx4)
        clear hx4
        have z0 := blk_cell HTW.out.1 0 (.int .i64 0) rfl
        have z1 := blk_cell HTW.out.1 1 (.int .i64 0) rfl
        have z2 := blk_cell HTW.out.1 2 (.slice none 0 0) rfl
        have z3 := blk_cell HTW.out.1 3 (.string ⟨#[]⟩) rfl
        have y0 := frozen_of_row _ _ 0 _ _ HTW.out.1
        have y1 := frozen_of_row _ _ 1 _ _ HTW.out.1
        have y2 := frozen_of_row _ _ 2 _ _ HTW.out.1
        have y3 := frozen_of_row _ _ 3 _ _ HTW.out.1
        have x0 := blk_cell HTW.out.2.1 0 (.int .i64 0) rfl
        have x1 := blk_cell HTW.out.2.1 1 (.int .i64 0) rfl
        have x2 := blk_cell HTW.out.2.1 2 (.slice none 0 0) rfl
        have x3 := blk_cell HTW.out.2.1 3 (.string ⟨#[]⟩) rfl
        go_wp2
        clear z0 z1 z2 z3 y0 y1 y2 y3 x0 x1 x2 x3
        have hzz := zero4 HTW.out.1
        have t0 := blk_cell hzz 0 (.int .i64 0) rfl
        have t1 := blk_cell hzz 1 (.int .i64 0) rfl
        have t2 := blk_cell hzz 2 (.slice none 0 0) rfl
        have t3 := blk_cell hzz 3 (.string ⟨#[]⟩) rfl
        refine bodyPost_ret (v := .tuple #[(.agg #[.int .i64 0, .int .i64 0, .slice none 0 0, .string ⟨#[]⟩]), .int .i64 0, .int .i64 cc]) (by simp [results, Try.results25, go_sem, t0, t1, t2, t3]) rfl ?_
        rw [HFIN.out]
        exact ⟨_, rfl, evAt_zero _, Ext.set4 HTW.out.2.2 _ _ _ _⟩
    · obtain rfl : j = m := by omega
      have HFIN : Hid (KnownP s a n q0 k (Ev.takes j (s.data.toList.drop q0)) = (⟨k, n, pre, ⟨#[]⟩⟩, (q : Int), 0)) := Lib.hid (by
        have e1 : Ev.takes (j - j) (s.data.toList.drop q) = ([], 0, 0) := by rw [Nat.sub_self]; rfl
        unfold KnownP
        rw [HTK.out, e1]
        have := HQC.out
        unfold Ev.comb
        simp
        omega)
      obtain ⟨A', c', hv', hI'⟩ := HOW.out.ints
      subst hv'
      have HI' := Lib.hid hI'
      have hfar : ∀ b o, A' = some ⟨b, o, none⟩ → w.heap.size + 3 ≤ b := fun b o hA => HOW.out.far hA
      have HFAR := Lib.hid hfar
      clear hI' hfar
      have x0 := blk_cell HBK.out 0 (.int .i64 k) rfl
      have x1 := blk_cell HBK.out 1 (.int .i64 n) rfl
      have x2 := blk_cell HBK.out 2 (.slice A' pre.length c') rfl
      have x3 := blk_cell HBK.out 3 (.string ⟨#[]⟩) rfl
      have z0 := blk_cell HTW.out.1 0 (.int .i64 0) rfl
      have z1 := blk_cell HTW.out.1 1 (.int .i64 0) rfl
      have z2 := blk_cell HTW.out.1 2 (.slice none 0 0) rfl
      have z3 := blk_cell HTW.out.1 3 (.string ⟨#[]⟩) rfl
      have y0 := frozen_of_row _ _ 0 _ _ HTW.out.1
      have y1 := frozen_of_row _ _ 1 _ _ HTW.out.1
      have y2 := frozen_of_row _ _ 2 _ _ HTW.out.1
      have y3 := frozen_of_row _ _ 3 _ _ HTW.out.1
      go_wp2
      clear z0 z1 z2 z3 y0 y1 y2 y3 x0 x1 x2 x3
      have hzz := blk_set (blk_set (blk_set (blk_set HTW.out.1 0 (.int .i64 k)) 1 (.int .i64 n)) 2 (.slice A' pre.length c')) 3 (.string ⟨#[]⟩)
      have t0 := blk_cell hzz 0 (.int .i64 k) rfl
      have t1 := blk_cell hzz 1 (.int .i64 n) rfl
      have t2 := blk_cell hzz 2 (.slice A' pre.length c') rfl
      have t3 := blk_cell hzz 3 (.string ⟨#[]⟩) rfl
      refine bodyPost_ret (v := .tuple #[.agg #[.int .i64 k, .int .i64 n, .slice A' pre.length c', .string ⟨#[]⟩], .int .i64 (q : Int), .int .i64 0]) (by simp [results, Try.results25, go_sem, t0, t1, t2, t3]) rfl ?_
      rw [HFIN.out]
      have far : ∀ A2 c2 b o, Value.slice A' pre.length c' = .slice A2 pre.length c2 → 0 < pre.length → A2 = some ⟨b, o, none⟩ → b ≠ w.heap.size := fun A2 c2 b o hv h0 hA => by
        simp only [Value.slice.injEq, true_and] at hv
        have := HFAR.out b o (hv.1.trans hA)
        omega
      exact ⟨_, rfl, ⟨A', c', rfl, ints_set (ints_set (ints_set (ints_set HI'.out far 0 _) far 1 _) far 2 _) far 3 _, fun b o _ hA => by have := HFAR.out b o hA; omega⟩, Ext.set4 HTW.out.2.2 _ _ _ _⟩


theorem drop_cons (s : ByteArray) (a : Nat) (h : a < s.size) : s.data.toList.drop a = s[a] :: s.data.toList.drop (a + 1) := by
  rw [List.drop_eq_getElem_cons (by simpa using h)]; rfl
theorem take_split (L : List UInt8) : (∃ n k, Va.take L = (n, k, 0) ∧ k ≤ L.length ∧ n < 4611686018427387904) ∨ ∃ c, c ≠ 0 ∧ Va.take L = (0, 0, c) := by
  rcases ht : Va.take L with ⟨n, k, c⟩
  by_cases hc : c = 0
  · subst hc
    obtain ⟨r, h1, h2, h3⟩ := Va.take_ok ht
    exact .inl ⟨n, k, rfl, by rw [h1, h2, List.length_append]; omega, by unfold Va.most at h3; exact h3⟩
  · have := Va.take_zero (L := L) (by rw [ht]; exact hc)
    rw [ht] at this
    simp only [Prod.mk.injEq, and_true] at this
    obtain ⟨rfl, rfl⟩ := this
    exact .inr ⟨c, hc, rfl⟩
theorem rdec_any (s : ByteArray) (a : Int) (w : World) (hs : s.size ≤ maxLen) : Calls Try.prog 25 #[.string s, .int .i64 a] w (DecPost (Ev.decP s a) w) := by
  by_cases h : a < 0 ∨ (s.size : Int) < a
  · rw [show Ev.decP s a = (Ev.zero, 0, 1) by unfold Ev.decP; rw [if_pos h]]
    exact rdec_out s a w h
  · obtain ⟨p, rfl⟩ := Int.eq_ofNat_of_zero_le (show 0 ≤ a by omega)
    have hp : p ≤ s.size := by omega
    by_cases hpe : p = s.size
    · subst hpe
      have hnil : s.data.toList.drop s.size = [] := List.drop_eq_nil_of_le (by simp)
      rw [Ev.decP_err s s.size (Nat.le_refl _) (by rw [hnil]; simp [Ev.dec]), hnil]
      exact rdec_short s w hs
    · have hlt : p < s.size := by omega
      have hL := drop_cons s p hlt
      have hTl : (s.data.toList.drop (p + 1)).length = s.size - (p + 1) := by rw [List.length_drop]; simp
      by_cases hko : (Ki.known (s[p].toNat : Int) || Ki.exp (s[p].toNat : Int)) = true
      · have hdec : Ev.dec (s.data.toList.drop p) = Ev.decT (s[p].toNat : Int) (s.data.toList.drop (p + 1)) := by rw [hL]; simp only [Ev.dec]; rw [if_pos hko]
        rw [Ev.decP_nat s p hp, hdec]
        unfold Ev.decT
        rcases take_split (s.data.toList.drop (p + 1)) with ⟨n, k1, ht, hk1, hn⟩ | ⟨c, hc, ht⟩
        · rw [ht]
          simp only [if_true]
          have hqs : p + 1 + k1 ≤ s.size := by omega
          have hdd : (s.data.toList.drop (p + 1)).drop k1 = s.data.toList.drop (p + 1 + k1) := by rw [List.drop_drop]
          rw [hdd]
          by_cases hx : Ki.exp (s[p].toNat : Int) = true
          · have hkf : Ki.known (s[p].toNat : Int) = false := by
              cases hk : Ki.known (s[p].toNat : Int) with
              | false => rfl
              | true => rw [Ki.known_exp hk] at hx; cases hx
            rw [if_pos hx]
            unfold Ev.txt
            have hQl : (s.data.toList.drop (p + 1 + k1)).length = s.size - (p + 1 + k1) := by rw [List.length_drop]; simp
            rcases take_split (s.data.toList.drop (p + 1 + k1)) with ⟨m, k2, hm, hk2, hmm⟩ | ⟨c, hc, hm⟩
            · rw [hm]
              simp only [if_true]
              have hQ2 : ((s.data.toList.drop (p + 1 + k1)).drop k2).length = s.size - (p + 1 + k1 + k2) := by rw [List.drop_drop, List.length_drop]; simp
              by_cases hl : ((s.data.toList.drop (p + 1 + k1)).drop k2).length < m
              · rw [if_pos hl]
                exact rdec_xshort s p n k1 _ m k2 _ w hs hlt hkf hx ht rfl hqs hm rfl (by omega) hmm (by omega)
              · rw [if_neg hl]
                simp only [if_true]
                have := rdec_xok s p n k1 _ m k2 _ _ w hs hlt rfl hkf hx ht rfl hqs hm rfl (by omega)
                have e1 : (⟨(((s.data.toList.drop (p + 1 + k1)).drop k2).take m).toArray⟩ : ByteArray) = s.extract (p + 1 + k1 + k2) (p + 1 + k1 + k2 + m) := by
                  apply ByteArray.ext
                  apply Array.toList_inj.1
                  rw [Lib.extract_data, List.drop_drop, show p + 1 + k1 + k2 + m - (p + 1 + k1 + k2) = m by omega]
                have e2 : (p : Int) + ((1 + k1 + (k2 + m) : Nat) : Int) = ((p + 1 + k1 + k2 + m : Nat) : Int) := by omega
                rw [e1, e2]
                exact this
            · rw [hm]
              simp only [hc, if_false]
              exact rdec_xerr s p n k1 _ c w hs hlt hkf hx ht rfl hqs hm hc
          · rw [if_neg hx]
            have hkt : Ki.known (s[p].toNat : Int) = true := by
              cases hk : Ki.known (s[p].toNat : Int) with
              | true => rfl
              | false => rw [hk] at hko; simp at hko; exact absurd hko hx
            have := rdec_known s p n k1 _ _ w hs hlt rfl hkt ht rfl hqs
            unfold KnownP at this
            by_cases h0 : (Ev.takes (Ki.args (s[p].toNat : Int)).length (s.data.toList.drop (p + 1 + k1))).2.2 = 0
            · rw [if_pos h0] at this ⊢
              simp only [if_true]
              have e2 : (p : Int) + ((1 + k1 + (Ev.takes (Ki.args (s[p].toNat : Int)).length (s.data.toList.drop (p + 1 + k1))).2.1 : Nat) : Int) = ((p + 1 + k1 + (Ev.takes (Ki.args (s[p].toNat : Int)).length (s.data.toList.drop (p + 1 + k1))).2.1 : Nat) : Int) := by omega
              rw [e2]
              exact this
            · rw [if_neg h0] at this ⊢
              simp only [h0, if_false]
              exact this
        · rw [ht]
          simp only [hc, if_false]
          exact rdec_dt s p c w hs hlt _ rfl (fun h => by rw [h] at hko; simpa using hko) ht hc
      · have hko' : Ki.known (s[p].toNat : Int) = false ∧ Ki.exp (s[p].toNat : Int) = false := by simpa using hko
        have hd : (Ev.dec (s.data.toList.drop p)).2.2 = 30 := by rw [hL]; simp only [Ev.dec]; rw [if_neg hko]
        rw [Ev.decP_err s p hp (by rw [hd]; decide), hd]
        exact rdec_kind s p w hs hlt hko'.1 hko'.2

end Go.Proofs.Ytcdfpifhjjiioaa
