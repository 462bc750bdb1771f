/-
  The walk of the statement RingOf.
-/
import Derived.Test.YtdpmogbibmgolaaNl
import Derived.DeepKeys
set_option linter.unusedVariables false
set_option linter.unusedSimpArgs false
namespace Go.Proofs.Ytdpmogbibmgolaa
open Go.RowKit
theorem run_zero10 (w : World) : (Op.equalIn 10000 24 (.agg #[.int .i64 0, .int .i64 0, .int .i64 0, .int .i64 0, .int .i64 0, .int .i64 0, .int .i64 0, .int .i64 0, .int .i64 0, .int .i64 0]) (.agg #[.int .i64 0, .int .i64 0, .int .i64 0, .int .i64 0, .int .i64 0, .int .i64 0, .int .i64 0, .int .i64 0, .int .i64 0, .int .i64 0])).run Try.prog w = .ok true w := by
  have hk : Try.prog.keyLits 10 24 (Value.agg #[.int .i64 0, .int .i64 0, .int .i64 0, .int .i64 0, .int .i64 0, .int .i64 0, .int .i64 0, .int .i64 0, .int .i64 0, .int .i64 0]).cells.toList = some [.int .i64 0, .int .i64 0, .int .i64 0, .int .i64 0, .int .i64 0, .int .i64 0, .int .i64 0, .int .i64 0, .int .i64 0, .int .i64 0] := by kernel_rfl
  obtain ⟨r, hr, hiff⟩ := run_equalIn_deep (P := Try.prog) 9990 10 24 (by kernel_rfl) w 10 10 (.agg #[.int .i64 0, .int .i64 0, .int .i64 0, .int .i64 0, .int .i64 0, .int .i64 0, .int .i64 0, .int .i64 0, .int .i64 0, .int .i64 0]) (.agg #[.int .i64 0, .int .i64 0, .int .i64 0, .int .i64 0, .int .i64 0, .int .i64 0, .int .i64 0, .int .i64 0, .int .i64 0, .int .i64 0]) _ _ (by kernel_rfl) (by kernel_rfl) hk hk
  rw [hiff.2 rfl] at hr
  exact hr
set_option maxRecDepth 100000 in
set_option maxHeartbeats 1000000 in
theorem rof_long (v : Value) (l : List Int) (w : World) (hI : IntsAt w v l) (hn : 20 < l.length) :
    Calls Try.prog 5 #[v] w fun e w' => e = .returned (.bool true) ∧ Ext w w' := by
  obtain ⟨A, c, rfl, hA⟩ := hI
  clear hA
  go_enter Try.func5, Try.ntmps5
  go_wp2_with fail
  refine (rgfixed_yes _).mono ?_
  rintro r w1 ⟨rfl, hx1⟩
  go_wp2_with fail
  refine (rgfixed_yes _).mono ?_
  rintro r w2 ⟨rfl, hx2⟩
  go_wp2
  go_ret
  exact ⟨rfl, hx1.trans hx2⟩
set_option maxRecDepth 100000 in
set_option maxHeartbeats 2000000 in
theorem rof_no (v : Value) (l : List Int) (w : World) (hI : IntsAt w v l) (hn : l.length ≤ 20) (h : Ri.ofs Ri.zero l = (Ri.zero, false)) :
    Calls Try.prog 5 #[v] w fun e w' => e = .returned (.bool true) ∧ Ext w w' := by
  have HI := Lib.hid hI
  obtain ⟨A, c, rfl, hA⟩ := hI
  have H := Lib.hid h
  clear hA h
  have hz := run_zero10
  go_enter Try.func5, Try.ntmps5
  go_wp2_with fail
  refine (rgfixed_yes _).mono ?_
  rintro r w1 ⟨rfl, hx1⟩
  go_wp2_with fail
  refine (rof_k _ l 0 0 0 0 0 0 0 0 0 0 false H.out _ (HI.out.ext hx1) (by omega)).mono ?_
  rintro r w2 ⟨rfl, hx2⟩
  obtain ⟨⟨q0, q1, q2, q3, q4⟩, q5, q6, q7, q8, q9⟩ := cells10 (blk_new w2 (.cells #[.int .i64 0, .int .i64 0, .int .i64 0, .int .i64 0, .int .i64 0, .int .i64 0, .int .i64 0, .int .i64 0, .int .i64 0, .int .i64 0] 24))
  go_wp2
  go_ret
  exact ⟨rfl, (hx1.trans hx2).alloc _⟩
theorem OwnInts.keptNe {w w' : World} {B : Nat} {v : Value} {xs : List Int} {g : Nat} (h : OwnInts w B v xs) (hg : w.grownBy w' (some g)) (hne : v.ownBlock ≠ some g) : OwnInts w' B v xs :=
  World.ownsRow.kept h hg (.inr hne)
set_option maxRecDepth 100000 in
set_option maxHeartbeats 3000000 in
theorem rof_yes (v : Value) (l : List Int) (w : World) (hI : IntsAt w v l) (e0 e1 e2 e3 e4 e5 e6 e7 eh en : Int) (h : Ri.ofs Ri.zero l = (⟨[e0, e1, e2, e3, e4, e5, e6, e7], eh, en⟩, true)) (hh : Ri.Holds ⟨[e0, e1, e2, e3, e4, e5, e6, e7], eh, en⟩ l) :
    Calls Try.prog 5 #[v] w fun e w' => e = .returned (.bool true) ∧ Ext w w' := by
  have HI := Lib.hid hI
  obtain ⟨A, c, rfl, hA⟩ := hI
  have hn : l.length ≤ 8 := (Ri.holds_n hh).2
  have H := Lib.hid h
  have HH := Lib.hid hh
  clear hA h hh
  go_enter Try.func5, Try.ntmps5
  go_wp2_with fail
  refine (rgfixed_yes _).mono ?_
  rintro r w1 ⟨rfl, hx1⟩
  go_wp2_with fail
  refine (rof_k _ l e0 e1 e2 e3 e4 e5 e6 e7 eh en true H.out _ (HI.out.ext hx1) (by omega)).mono ?_
  rintro r w2 ⟨rfl, hx2⟩
  have hx3 := hx1.trans hx2
  have HX := Lib.hid (hx3.alloc (.cells #[.int .i64 e0, .int .i64 e1, .int .i64 e2, .int .i64 e3, .int .i64 e4, .int .i64 e5, .int .i64 e6, .int .i64 e7, .int .i64 eh, .int .i64 en] 24))
  have HB := Lib.hid (blk_new w2 (.cells #[.int .i64 e0, .int .i64 e1, .int .i64 e2, .int .i64 e3, .int .i64 e4, .int .i64 e5, .int .i64 e6, .int .i64 e7, .int .i64 eh, .int .i64 en] 24))
  have hsz := hx3.size
  clear hx1 hx2 hx3
  obtain ⟨⟨q0, q1, q2, q3, q4⟩, q5, q6, q7, q8, q9⟩ := cells10 HB.out
  go_upto_region 7 with fail
  clear q0 q1 q2 q3 q4 q5 q6 q7 q8 q9
  go_wp2
  have HX0 : Hid (Ext w (((w2.alloc (.cells #[.int .i64 e0, .int .i64 e1, .int .i64 e2, .int .i64 e3, .int .i64 e4, .int .i64 e5, .int .i64 e6, .int .i64 e7, .int .i64 eh, .int .i64 en] 24)).alloc (.cells #[] 3)).alloc (.cells #[.int .i64 e0, .int .i64 e1, .int .i64 e2, .int .i64 e3, .int .i64 e4, .int .i64 e5, .int .i64 e6, .int .i64 e7, .int .i64 eh, .int .i64 en] 24))) := Lib.hid ((HX.out.alloc _).alloc _)
  have HT3 : Hid ((((w2.alloc (.cells #[.int .i64 e0, .int .i64 e1, .int .i64 e2, .int .i64 e3, .int .i64 e4, .int .i64 e5, .int .i64 e6, .int .i64 e7, .int .i64 eh, .int .i64 en] 24)).alloc (.cells #[] 3)).alloc (.cells #[.int .i64 e0, .int .i64 e1, .int .i64 e2, .int .i64 e3, .int .i64 e4, .int .i64 e5, .int .i64 e6, .int .i64 e7, .int .i64 eh, .int .i64 en] 24)).heap[w2.heap.size]? = some (.cells #[.int .i64 e0, .int .i64 e1, .int .i64 e2, .int .i64 e3, .int .i64 e4, .int .i64 e5, .int .i64 e6, .int .i64 e7, .int .i64 eh, .int .i64 en] 24 (0, 0))) := Lib.hid (blk_alloc (blk_alloc HB.out _) _)
  have HT6 : Hid ((((w2.alloc (.cells #[.int .i64 e0, .int .i64 e1, .int .i64 e2, .int .i64 e3, .int .i64 e4, .int .i64 e5, .int .i64 e6, .int .i64 e7, .int .i64 eh, .int .i64 en] 24)).alloc (.cells #[] 3)).alloc (.cells #[.int .i64 e0, .int .i64 e1, .int .i64 e2, .int .i64 e3, .int .i64 e4, .int .i64 e5, .int .i64 e6, .int .i64 e7, .int .i64 eh, .int .i64 en] 24)).heap[(w2.heap.size + 1 + 1)]? = some (.cells #[.int .i64 e0, .int .i64 e1, .int .i64 e2, .int .i64 e3, .int .i64 e4, .int .i64 e5, .int .i64 e6, .int .i64 e7, .int .i64 eh, .int .i64 en] 24 (0, 0))) := Lib.hid (by have := blk_new ((w2.alloc (.cells #[.int .i64 e0, .int .i64 e1, .int .i64 e2, .int .i64 e3, .int .i64 e4, .int .i64 e5, .int .i64 e6, .int .i64 e7, .int .i64 eh, .int .i64 en] 24)).alloc (.cells #[] 3)) (.cells #[.int .i64 e0, .int .i64 e1, .int .i64 e2, .int .i64 e3, .int .i64 e4, .int .i64 e5, .int .i64 e6, .int .i64 e7, .int .i64 eh, .int .i64 en] 24); rwa [World.size_alloc, World.size_alloc] at this)
  have HO0 : Hid (OwnInts (((w2.alloc (.cells #[.int .i64 e0, .int .i64 e1, .int .i64 e2, .int .i64 e3, .int .i64 e4, .int .i64 e5, .int .i64 e6, .int .i64 e7, .int .i64 eh, .int .i64 en] 24)).alloc (.cells #[] 3)).alloc (.cells #[.int .i64 e0, .int .i64 e1, .int .i64 e2, .int .i64 e3, .int .i64 e4, .int .i64 e5, .int .i64 e6, .int .i64 e7, .int .i64 eh, .int .i64 en] 24)) (w2.heap.size + 1) (.slice (some ⟨w2.heap.size + 1, 0, none⟩) 0 0) []) := Lib.hid (by
    have := World.ownsRow_made (base := w2.heap.size + 1) (e := 3) (size := 1) (w2.alloc (.cells #[.int .i64 e0, .int .i64 e1, .int .i64 e2, .int .i64 e3, .int .i64 e4, .int .i64 e5, .int .i64 e6, .int .i64 e7, .int .i64 eh, .int .i64 en] 24)) #[] 0 (by simp) (by decide) rfl
    rw [World.size_alloc] at this
    exact OwnInts.alloc (xs := []) this _)
  have hs0 : w2.heap.size + 3 ≤ (((w2.alloc (.cells #[.int .i64 e0, .int .i64 e1, .int .i64 e2, .int .i64 e3, .int .i64 e4, .int .i64 e5, .int .i64 e6, .int .i64 e7, .int .i64 eh, .int .i64 en] 24)).alloc (.cells #[] 3)).alloc (.cells #[.int .i64 e0, .int .i64 e1, .int .i64 e2, .int .i64 e3, .int .i64 e4, .int .i64 e5, .int .i64 e6, .int .i64 e7, .int .i64 eh, .int .i64 en] 24)).heap.size := by simp
  clear HX HB
  go_loopw [5, 7] (fun ov iv wr => ∃ (u : Value) (j : Nat) (c0 c1 c2 c3 c4 c5 c6 c7 ch cn : Int) (m : List Int), u = ov ∧ j ≤ l.length ∧ iv = .int .i64 j ∧ m = l.take j ∧ OwnInts wr (w2.heap.size + 1) u m ∧ u.ownBlock ≠ some ((w2.heap.size + 1 + 1)) ∧ Ri.Holds ⟨[c0, c1, c2, c3, c4, c5, c6, c7], ch, cn⟩ (l.drop j) ∧ wr.heap[w2.heap.size]? = some (.cells #[.int .i64 e0, .int .i64 e1, .int .i64 e2, .int .i64 e3, .int .i64 e4, .int .i64 e5, .int .i64 e6, .int .i64 e7, .int .i64 eh, .int .i64 en] 24 (0, 0)) ∧ wr.heap[(w2.heap.size + 1 + 1)]? = some (.cells #[.int .i64 c0, .int .i64 c1, .int .i64 c2, .int .i64 c3, .int .i64 c4, .int .i64 c5, .int .i64 c6, .int .i64 c7, .int .i64 ch, .int .i64 cn] 24 (0, 0)) ∧ Ext w wr ∧ w2.heap.size + 3 ≤ wr.heap.size) (fun _ iv _ => l.length - (intOf iv).toNat)
  case atStart => exact ⟨_, 0, e0, e1, e2, e3, e4, e5, e6, e7, eh, en, [], rfl, by omega, rfl, by simp, HO0.out, by simp [Value.ownBlock], HH.out, HT3.out, HT6.out, HX0.out, hs0⟩
  case round =>
    obtain ⟨u, j, c0, c1, c2, c3, c4, c5, c6, c7, ch, cn, m, hu, hj, rfl, hmm, hown, hne, hhd, hb3, hb6, hx, hsr⟩ := hrel
    subst hu
    have HOWN := Lib.hid hown
    have HNE := Lib.hid hne
    have HC := Lib.hid hhd
    have HT3 := Lib.hid hb3
    have HT6 := Lib.hid hb6
    have HX := Lib.hid hx
    obtain ⟨A0, a0, rfl⟩ := OwnInts.form HOWN.out
    have HM := Lib.hid hmm
    have HTL : Hid (m.length = j) := Lib.hid (by rw [hmm, List.length_take]; omega)
    clear hmm
    clear hown hne hhd hb3 hb6 hx
    by_cases hlt : j < l.length
    · obtain ⟨x, hxg⟩ : ∃ x, l[j] = x := ⟨_, rfl⟩
      have hdr : l.drop j = x :: l.drop (j + 1) := by rw [List.drop_eq_getElem_cons hlt, hxg]
      have htk : m ++ [x] = l.take (j + 1) := by rw [HM.out, List.take_succ_eq_append_getElem hlt, hxg]
      have h1 := HC.out
      rw [hdr] at h1
      obtain ⟨r', hp, hh'⟩ := Ri.holds_pop h1
      obtain ⟨d0, d1, d2, d3, d4, d5, d6, d7, dh, dn, rfl⟩ := Ri.open8 (Ri.holds_len hh')
      have HP := Lib.hid hp
      have HH' := Lib.hid hh'
      have HTK := Lib.hid htk
      clear hxg hdr htk h1 hp hh' HC
      obtain ⟨⟨q0, q1, q2, q3, q4⟩, q5, q6, q7, q8, q9⟩ := cells10 HT6.out
      go_wp2_with fail
      refine (rpop_k c0 c1 c2 c3 c4 c5 c6 c7 ch cn d0 d1 d2 d3 d4 d5 d6 d7 dh dn x true HP.out _).mono ?_
      rintro r wq ⟨rfl, hx5⟩
      clear q0 q1 q2 q3 q4 q5 q6 q7 q8 q9
      have hsz5 := hx5.size
      have HX5 : Hid (Ext w (wq.alloc (.cells #[.int .i64 d0, .int .i64 d1, .int .i64 d2, .int .i64 d3, .int .i64 d4, .int .i64 d5, .int .i64 d6, .int .i64 d7, .int .i64 dh, .int .i64 dn] 24))) := Lib.hid ((HX.out.trans hx5).alloc _)
      have HT35 : Hid ((wq.alloc (.cells #[.int .i64 d0, .int .i64 d1, .int .i64 d2, .int .i64 d3, .int .i64 d4, .int .i64 d5, .int .i64 d6, .int .i64 d7, .int .i64 dh, .int .i64 dn] 24)).heap[w2.heap.size]? = some (.cells #[.int .i64 e0, .int .i64 e1, .int .i64 e2, .int .i64 e3, .int .i64 e4, .int .i64 e5, .int .i64 e6, .int .i64 e7, .int .i64 eh, .int .i64 en] 24 (0, 0))) := Lib.hid (blk_alloc (hx5.blk HT3.out) _)
      have HT65 : Hid ((wq.alloc (.cells #[.int .i64 d0, .int .i64 d1, .int .i64 d2, .int .i64 d3, .int .i64 d4, .int .i64 d5, .int .i64 d6, .int .i64 d7, .int .i64 dh, .int .i64 dn] 24)).heap[(w2.heap.size + 1 + 1)]? = some (.cells #[.int .i64 c0, .int .i64 c1, .int .i64 c2, .int .i64 c3, .int .i64 c4, .int .i64 c5, .int .i64 c6, .int .i64 c7, .int .i64 ch, .int .i64 cn] 24 (0, 0))) := Lib.hid (blk_alloc (hx5.blk HT6.out) _)
      have HN5 : Hid ((wq.alloc (.cells #[.int .i64 d0, .int .i64 d1, .int .i64 d2, .int .i64 d3, .int .i64 d4, .int .i64 d5, .int .i64 d6, .int .i64 d7, .int .i64 dh, .int .i64 dn] 24)).heap[wq.heap.size]? = some (.cells #[.int .i64 d0, .int .i64 d1, .int .i64 d2, .int .i64 d3, .int .i64 d4, .int .i64 d5, .int .i64 d6, .int .i64 d7, .int .i64 dh, .int .i64 dn] 24 (0, 0))) := Lib.hid (blk_new _ _)
      have HO5 : Hid (OwnInts (wq.alloc (.cells #[.int .i64 d0, .int .i64 d1, .int .i64 d2, .int .i64 d3, .int .i64 d4, .int .i64 d5, .int .i64 d6, .int .i64 d7, .int .i64 dh, .int .i64 dn] 24)) (w2.heap.size + 1) (.slice A0 m.length a0) m) := Lib.hid ((HOWN.out.ext hx5).alloc _)
      have hub : ∀ k, (Value.slice A0 m.length a0).ownBlock = some k → w2.heap.size + 1 ≤ k ∧ k < wr.heap.size := fun k hk => World.ownsRow.lt HOWN.out k hk
      have HS5 : Hid ((wq.alloc (.cells #[.int .i64 d0, .int .i64 d1, .int .i64 d2, .int .i64 d3, .int .i64 d4, .int .i64 d5, .int .i64 d6, .int .i64 d7, .int .i64 dh, .int .i64 dn] 24)).heap.size = wq.heap.size + 1) := Lib.hid (World.size_alloc _ _)
      have hs5 : w2.heap.size + 3 ≤ wq.heap.size := by omega
      have hub2 : ∀ k, (Value.slice A0 m.length a0).ownBlock = some k → w2.heap.size + 1 ≤ k ∧ k < wq.heap.size := fun k hk => by have := hub k hk; omega
      have HUB := Lib.hid hub2
      clear hx5 HT3 HT6 HX HOWN hsz5 hub hub2
      go_upto_region 12 with fail
      generalize hw5 : wq.alloc (.cells #[.int .i64 d0, .int .i64 d1, .int .i64 d2, .int .i64 d3, .int .i64 d4, .int .i64 d5, .int .i64 d6, .int .i64 d7, .int .i64 dh, .int .i64 dn] 24) = w5 at *
      obtain ⟨u, w8, hr8, ho8, hg8, hbb8⟩ := OwnInts.append2 25 (OwnInts.alloc HO5.out (.cells #[.int .i64 x] 3)) (m := [x]) (ints_one w5 x) (by have := HTL.out; simp; omega) (by have := HS5.out; simp; omega)
      simp only [List.length_singleton] at hr8
      have HR8 := Lib.hid hr8
      have hX8 := Below.grown (HX5.out.alloc (.cells #[.int .i64 x] 3)) hg8 (by rw [World.size_alloc]; have := HS5.out; omega) (fun k hk => by have := HUB.out k hk; omega)
      have hz8 : w8.heap[w2.heap.size]? = some (.cells #[.int .i64 e0, .int .i64 e1, .int .i64 e2, .int .i64 e3, .int .i64 e4, .int .i64 e5, .int .i64 e6, .int .i64 e7, .int .i64 eh, .int .i64 en] 24 (0, 0)) := (hg8.block w2.heap.size (by rw [World.size_alloc]; have := HS5.out; omega) (fun hk => by have := HUB.out _ hk.symm; omega)).trans (blk_alloc HT35.out _)
      have hb8 : w8.heap[(w2.heap.size + 1 + 1)]? = some (.cells #[.int .i64 c0, .int .i64 c1, .int .i64 c2, .int .i64 c3, .int .i64 c4, .int .i64 c5, .int .i64 c6, .int .i64 c7, .int .i64 ch, .int .i64 cn] 24 (0, 0)) := (hg8.block (w2.heap.size + 1 + 1) (by rw [World.size_alloc]; have := HS5.out; omega) (fun hk => HNE.out hk.symm)).trans (blk_alloc HT65.out _)
      have hn8 : w8.heap[wq.heap.size]? = some (.cells #[.int .i64 d0, .int .i64 d1, .int .i64 d2, .int .i64 d3, .int .i64 d4, .int .i64 d5, .int .i64 d6, .int .i64 d7, .int .i64 dh, .int .i64 dn] 24 (0, 0)) := (hg8.block wq.heap.size (by rw [World.size_alloc]; have := HS5.out; omega) (fun hk => by have := HUB.out _ hk.symm; omega)).trans (blk_alloc HN5.out _)
      have hs8 := hg8.size
      rw [World.size_alloc] at hs8
      have hne8 : u.ownBlock ≠ some ((w2.heap.size + 1 + 1)) := by
        rcases hbb8 with h | h
        · rw [h]; exact HNE.out
        · rw [h, World.size_alloc]; have := HS5.out; intro hk; injection hk with hk; omega
      have HEND : Hid (OwnInts w8 (w2.heap.size + 1) u (m ++ [x]) ∧ u.ownBlock ≠ some ((w2.heap.size + 1 + 1)) ∧ w8.heap[w2.heap.size]? = some (.cells #[.int .i64 e0, .int .i64 e1, .int .i64 e2, .int .i64 e3, .int .i64 e4, .int .i64 e5, .int .i64 e6, .int .i64 e7, .int .i64 eh, .int .i64 en] 24 (0, 0)) ∧ w8.heap[(w2.heap.size + 1 + 1)]? = some (.cells #[.int .i64 c0, .int .i64 c1, .int .i64 c2, .int .i64 c3, .int .i64 c4, .int .i64 c5, .int .i64 c6, .int .i64 c7, .int .i64 ch, .int .i64 cn] 24 (0, 0)) ∧ Ext w w8 ∧ w2.heap.size + 3 ≤ w8.heap.size) := Lib.hid ⟨ho8, hne8, hz8, hb8, hX8, by have := HS5.out; omega⟩
      have HZB := Lib.hid hb8
      have HN8 := Lib.hid hn8
      clear hw5 HT35 HT65 HN5 HO5 HX5 hr8 ho8 hg8 hbb8 hX8 hz8 hb8 hn8 hs8 hne8 HUB HNE
      obtain ⟨⟨z0, z1, z2, z3, z4⟩, z5, z6, z7, z8, z9⟩ := cells10 HZB.out
      obtain ⟨⟨y0, y1, y2, y3, y4⟩, y5, y6, y7, y8, y9⟩ := frozen10 HZB.out
      obtain ⟨⟨q0, q1, q2, q3, q4⟩, q5, q6, q7, q8, q9⟩ := cells10 HN8.out
      go_wp2_with (at_builtin; refine wpList_append_run rfl _ _ 25 rfl _ _ rfl rfl HR8.out ?_)
      go_roundw
      case rel => exact ⟨u, j + 1, d0, d1, d2, d3, d4, d5, d6, d7, dh, dn, m ++ [x], rfl, by omega, by go_num, HTK.out, OwnInts.keptNe HEND.out.1 (upd10 ((w2.heap.size + 1 + 1)) w8 _ _ _ _ _ _ _ _ _ _) HEND.out.2.1, HEND.out.2.1, HH'.out, (upd10 ((w2.heap.size + 1 + 1)) w8 _ _ _ _ _ _ _ _ _ _).blk HEND.out.2.2.1 (by omega), set10_at HZB.out _ _ _ _ _ _ _ _ _ _, set10_ext HEND.out.2.2.2.2.1 (by omega) _ _ _ _ _ _ _ _ _ _, Nat.le_trans HEND.out.2.2.2.2.2 (upd10 ((w2.heap.size + 1 + 1)) w8 _ _ _ _ _ _ _ _ _ _).sz⟩
      case measure => simp [intOf]; omega
    · obtain rfl : j = l.length := by omega
      have hc0 := HC.out
      rw [List.drop_length] at hc0
      have hcn := (Ri.holds_n hc0).1
      simp only [List.length_nil] at hcn
      subst hcn
      have HO := HOWN.out
      have HMM := HM.out
      rw [List.take_length] at HMM
      obtain rfl : l = m := HMM.symm
      obtain ⟨A9, a9, h9, h9'⟩ := HO.ints
      simp only [Value.slice.injEq, true_and] at h9
      obtain ⟨rfl, rfl⟩ := h9
      have HO9 := Lib.hid h9'
      have HI9 := Lib.hid (HI.out.ext HX.out)
      clear HO h9' hc0 HM HTL HC HNE HOWN
      obtain ⟨⟨q0, q1, q2, q3, q4⟩, q5, q6, q7, q8, q9⟩ := cells10 HT3.out
      go_wp2_with fail
      refine (rlist_k e0 e1 e2 e3 e4 e5 e6 e7 eh en l (Ri.list_of HH.out) _).mono ?_
      rintro r w3 ⟨v3, rfl, hi3, hx3⟩
      clear q0 q1 q2 q3 q4 q5 q6 q7 q8 q9
      have HI3 := Lib.hid hi3
      clear hi3
      go_wp2_with fail
      refine (rints_self' _ _ l _ HI3.out (HI9.out.ext hx3) (by omega)).mono ?_
      rintro r w4 ⟨rfl, hx4⟩
      have E4 := Lib.hid (hx3.trans hx4)
      clear hx3 hx4 HI3
      go_wp2_with fail
      refine (rints_self' _ _ l _ (HO9.out.ext E4.out) (HI9.out.ext E4.out) (by omega)).mono ?_
      rintro r w5 ⟨rfl, hx5⟩
      have p9 := blk_cell (hx5.blk (E4.out.blk HT6.out)) 9 (.int .i64 0) rfl
      go_wp2
      go_ret
      exact ⟨rfl, HX.out.trans (E4.out.trans hx5)⟩
theorem walk_RingOf (a : Option Addr) (len cap : Nat) (zs : List Int) (w : World) (hz : IsRow .i64 w a len cap zs) :
    Calls Try.prog 5 #[.slice a len cap] w fun e w' => e = .returned (.bool true) ∧ Ext w w' := by
  obtain ⟨hI, hlen, _⟩ := ints_of_row hz
  generalize zs.take len = l at *
  by_cases hn : 20 < l.length
  · exact rof_long _ l w hI hn
  · rcases Ri.ofs_holds l [] Ri.zero Ri.holds_zero with ⟨r, h1, h2⟩ | h
    · obtain ⟨e0, e1, e2, e3, e4, e5, e6, e7, eh, en, rfl⟩ := Ri.open8 (Ri.holds_len h2)
      exact rof_yes _ l w hI e0 e1 e2 e3 e4 e5 e6 e7 eh en h1 h2
    · exact rof_no _ l w hI (by omega) h

end Go.Proofs.Ytdpmogbibmgolaa
