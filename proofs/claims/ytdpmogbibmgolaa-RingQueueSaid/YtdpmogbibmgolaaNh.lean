/-
  The contract of ring.Of.
-/
import Derived.Test.YtdpmogbibmgolaaNg
set_option linter.unusedVariables false
set_option linter.unusedSimpArgs false
namespace Go.Proofs.Ytdpmogbibmgolaa
open Go.RowKit
theorem Ri.push_len {r : Ri} {g : Int} (h : r.buf.length = 8) : (r.push g).1.buf.length = 8 := by
  unfold Ri.push; split
  · simp [h]
  · rfl
theorem Ri.pop_len {r : Ri} (h : r.buf.length = 8) : r.pop.1.buf.length = 8 := by
  unfold Ri.pop; split
  · split
    · exact h
    · simp [h]
  · rfl
/-- Numbers pushed one by one. -/
def Ri.ofs : Ri → List Int → Ri × Bool
  | r, [] => (r, true)
  | r, g :: l => if (r.push g).2 then Ri.ofs (r.push g).1 l else (Ri.zero, false)
set_option maxRecDepth 100000 in
set_option maxHeartbeats 1000000 in
theorem rof_k (v : Value) (l : List Int) (e0 e1 e2 e3 e4 e5 e6 e7 eh en : Int) (ok : Bool) (h : Ri.ofs Ri.zero l = (⟨[e0, e1, e2, e3, e4, e5, e6, e7], eh, en⟩, ok)) (w : World) (hI : IntsAt w v l) (hn : l.length ≤ 9223372036854775807) :
    Calls Try.prog 16 #[v] w fun e w' => e = .returned (.tuple #[.agg #[.int .i64 e0, .int .i64 e1, .int .i64 e2, .int .i64 e3, .int .i64 e4, .int .i64 e5, .int .i64 e6, .int .i64 e7, .int .i64 eh, .int .i64 en], .bool ok]) ∧ Ext w w' := by
  obtain ⟨A, c, rfl, hA⟩ := hI
  have HA := Lib.hid hA
  have H := Lib.hid h
  clear hA h
  go_enter Try.func16, Try.ntmps16
  go_wp2
  go_loopw [12] (fun iv wr => ∃ (j : Nat) (c0 c1 c2 c3 c4 c5 c6 c7 ch cn : Int), j ≤ l.length ∧ iv = .int .i64 j ∧ Ri.ofs Ri.zero l = Ri.ofs ⟨[c0, c1, c2, c3, c4, c5, c6, c7], ch, cn⟩ (l.drop j) ∧ wr.heap[w.heap.size]? = some (.cells #[.int .i64 0, .int .i64 0, .int .i64 0, .int .i64 0, .int .i64 0, .int .i64 0, .int .i64 0, .int .i64 0, .int .i64 0, .int .i64 0] 24 (0, 0)) ∧ wr.heap[(w.heap.size + 1)]? = some (.cells #[.int .i64 c0, .int .i64 c1, .int .i64 c2, .int .i64 c3, .int .i64 c4, .int .i64 c5, .int .i64 c6, .int .i64 c7, .int .i64 ch, .int .i64 cn] 24 (0, 0)) ∧ Ext w wr) (fun iv _ => l.length - (intOf iv).toNat)
  case atStart => exact ⟨0, 0, 0, 0, 0, 0, 0, 0, 0, 0, 0, by omega, rfl, rfl, blk_alloc (blk_new w (.cells #[.int .i64 0, .int .i64 0, .int .i64 0, .int .i64 0, .int .i64 0, .int .i64 0, .int .i64 0, .int .i64 0, .int .i64 0, .int .i64 0] 24)) (.cells #[.int .i64 0, .int .i64 0, .int .i64 0, .int .i64 0, .int .i64 0, .int .i64 0, .int .i64 0, .int .i64 0, .int .i64 0, .int .i64 0] 24), (by have := blk_new (w.alloc (.cells #[.int .i64 0, .int .i64 0, .int .i64 0, .int .i64 0, .int .i64 0, .int .i64 0, .int .i64 0, .int .i64 0, .int .i64 0, .int .i64 0] 24)) (.cells #[.int .i64 0, .int .i64 0, .int .i64 0, .int .i64 0, .int .i64 0, .int .i64 0, .int .i64 0, .int .i64 0, .int .i64 0, .int .i64 0] 24); rwa [World.size_alloc] at this), ((Ext.refl w).alloc _).alloc _⟩
  case round =>
    obtain ⟨j, c0, c1, c2, c3, c4, c5, c6, c7, ch, cn, hj, rfl, hs, hb0, hb1, hx⟩ := hrel
    have HS := Lib.hid hs
    have HZB := Lib.hid hb0
    have HB1 := Lib.hid hb1
    have HX := Lib.hid hx
    clear hs hb0 hb1 hx
    by_cases hlt : j < l.length
    · obtain ⟨b, o, rfl, hb, hc⟩ := HA.out (by omega)
      have hcx : wr.cell? ⟨b, o + j, none⟩ = some (.int .i64 l[j]) := by rw [Below.cell HX.out hb]; exact hc j _ (List.getElem?_eq_getElem hlt)
      have HD : Hid (l.drop j = l[j] :: l.drop (j + 1)) := Lib.hid (List.drop_eq_getElem_cons hlt)
      clear hc
      generalize l[j] = g at *
      obtain ⟨d0, d1, d2, d3, d4, d5, d6, d7, hds⟩ := list8 (Ri.push_len (r := ⟨[c0, c1, c2, c3, c4, c5, c6, c7], ch, cn⟩) (g := g) rfl)
      rcases hp : Ri.push ⟨[c0, c1, c2, c3, c4, c5, c6, c7], ch, cn⟩ g with ⟨⟨ds, dh, dn⟩, k⟩
      rw [hp] at hds
      simp only at hds
      subst hds
      have HP := Lib.hid hp
      have hofs := H.out.symm.trans HS.out
      rw [HD.out] at hofs
      unfold Ri.ofs at hofs
      rw [hp] at hofs
      have HO := Lib.hid hofs
      clear hp hofs
      obtain ⟨⟨q0, q1, q2, q3, q4⟩, q5, q6, q7, q8, q9⟩ := cells10 HB1.out
      go_wp2_with fail
      refine (rpush_k c0 c1 c2 c3 c4 c5 c6 c7 ch cn g d0 d1 d2 d3 d4 d5 d6 d7 dh dn k HP.out _).mono ?_
      rintro r w5 ⟨rfl, hx5⟩
      clear q0 q1 q2 q3 q4 q5 q6 q7 q8 q9
      clear hcx
      have HX5 : Hid (Ext w (w5.alloc (.cells #[.int .i64 d0, .int .i64 d1, .int .i64 d2, .int .i64 d3, .int .i64 d4, .int .i64 d5, .int .i64 d6, .int .i64 d7, .int .i64 dh, .int .i64 dn] 24))) := Lib.hid ((HX.out.trans hx5).alloc _)
      have HZ5 : Hid ((w5.alloc (.cells #[.int .i64 d0, .int .i64 d1, .int .i64 d2, .int .i64 d3, .int .i64 d4, .int .i64 d5, .int .i64 d6, .int .i64 d7, .int .i64 dh, .int .i64 dn] 24)).heap[w.heap.size]? = some (.cells #[.int .i64 0, .int .i64 0, .int .i64 0, .int .i64 0, .int .i64 0, .int .i64 0, .int .i64 0, .int .i64 0, .int .i64 0, .int .i64 0] 24 (0, 0))) := Lib.hid (blk_alloc (hx5.blk HZB.out) _)
      have HB5 : Hid ((w5.alloc (.cells #[.int .i64 d0, .int .i64 d1, .int .i64 d2, .int .i64 d3, .int .i64 d4, .int .i64 d5, .int .i64 d6, .int .i64 d7, .int .i64 dh, .int .i64 dn] 24)).heap[(w.heap.size + 1)]? = some (.cells #[.int .i64 c0, .int .i64 c1, .int .i64 c2, .int .i64 c3, .int .i64 c4, .int .i64 c5, .int .i64 c6, .int .i64 c7, .int .i64 ch, .int .i64 cn] 24 (0, 0))) := Lib.hid (blk_alloc (hx5.blk HB1.out) _)
      have HN5 : Hid ((w5.alloc (.cells #[.int .i64 d0, .int .i64 d1, .int .i64 d2, .int .i64 d3, .int .i64 d4, .int .i64 d5, .int .i64 d6, .int .i64 d7, .int .i64 dh, .int .i64 dn] 24)).heap[w5.heap.size]? = some (.cells #[.int .i64 d0, .int .i64 d1, .int .i64 d2, .int .i64 d3, .int .i64 d4, .int .i64 d5, .int .i64 d6, .int .i64 d7, .int .i64 dh, .int .i64 dn] 24 (0, 0))) := Lib.hid (blk_new _ _)
      clear hx5 HZB HB1 HX
      cases k with
      | false =>
        have HO' := HO.out
        simp only [Bool.false_eq_true, if_false, Ri.zero, Prod.mk.injEq, Ri.mk.injEq, List.cons.injEq, and_true] at HO'
        obtain ⟨⟨⟨rfl, rfl, rfl, rfl, rfl, rfl, rfl, rfl⟩, rfl, rfl⟩, rfl⟩ := HO'
        have HZB := HZ5
        obtain ⟨⟨z0, z1, z2, z3, z4⟩, z5, z6, z7, z8, z9⟩ := cells10 HZB.out
        obtain ⟨⟨y0, y1, y2, y3, y4⟩, y5, y6, y7, y8, y9⟩ := frozen10 HZB.out
        go_wp2
        have hzz := set10_at HZB.out (.int .i64 0) (.int .i64 0) (.int .i64 0) (.int .i64 0) (.int .i64 0) (.int .i64 0) (.int .i64 0) (.int .i64 0) (.int .i64 0) (.int .i64 0)
        clear z0 z1 z2 z3 z4 z5 z6 z7 z8 z9 y0 y1 y2 y3 y4 y5 y6 y7 y8 y9
        obtain ⟨⟨t0, t1, t2, t3, t4⟩, t5, t6, t7, t8, t9⟩ := cells10 hzz
        refine bodyPost_ret (v := .tuple #[.agg #[.int .i64 0, .int .i64 0, .int .i64 0, .int .i64 0, .int .i64 0, .int .i64 0, .int .i64 0, .int .i64 0, .int .i64 0, .int .i64 0], .bool false]) (by simp [results, Try.results16, go_sem, t0, t1, t2, t3, t4, t5, t6, t7, t8, t9]) rfl ⟨rfl, ?_⟩
        exact set10_ext HX5.out (by omega) _ _ _ _ _ _ _ _ _ _
      | true =>
        have HZB := HB5
        obtain ⟨⟨z0, z1, z2, z3, z4⟩, z5, z6, z7, z8, z9⟩ := cells10 HZB.out
        obtain ⟨⟨y0, y1, y2, y3, y4⟩, y5, y6, y7, y8, y9⟩ := frozen10 HZB.out
        obtain ⟨⟨q0, q1, q2, q3, q4⟩, q5, q6, q7, q8, q9⟩ := cells10 HN5.out
        go_wp2
        go_roundw
        case rel => exact ⟨j + 1, d0, d1, d2, d3, d4, d5, d6, d7, dh, dn, by omega, by go_num, H.out.trans (by simpa using HO.out), blk_set_other (blk_set_other (blk_set_other (blk_set_other (blk_set_other (blk_set_other (blk_set_other (blk_set_other (blk_set_other (blk_set_other HZ5.out _ (by simp) _) _ (by simp) _) _ (by simp) _) _ (by simp) _) _ (by simp) _) _ (by simp) _) _ (by simp) _) _ (by simp) _) _ (by simp) _) _ (by simp) _, set10_at HB5.out _ _ _ _ _ _ _ _ _ _, set10_ext HX5.out (by omega) _ _ _ _ _ _ _ _ _ _⟩
        case measure => simp [intOf]; omega
    · obtain rfl : j = l.length := by omega
      have hofs := H.out.symm.trans HS.out
      rw [List.drop_length] at hofs
      simp only [Ri.ofs, Prod.mk.injEq, Ri.mk.injEq, List.cons.injEq, and_true] at hofs
      obtain ⟨⟨⟨rfl, rfl, rfl, rfl, rfl, rfl, rfl, rfl⟩, rfl, rfl⟩, rfl⟩ := hofs
      obtain ⟨⟨z0, z1, z2, z3, z4⟩, z5, z6, z7, z8, z9⟩ := cells10 HZB.out
      obtain ⟨⟨y0, y1, y2, y3, y4⟩, y5, y6, y7, y8, y9⟩ := frozen10 HZB.out
      obtain ⟨⟨q0, q1, q2, q3, q4⟩, q5, q6, q7, q8, q9⟩ := cells10 HB1.out
      go_wp2
      have hzz := set10_at HZB.out (.int .i64 e0) (.int .i64 e1) (.int .i64 e2) (.int .i64 e3) (.int .i64 e4) (.int .i64 e5) (.int .i64 e6) (.int .i64 e7) (.int .i64 eh) (.int .i64 en)
      clear z0 z1 z2 z3 z4 z5 z6 z7 z8 z9 y0 y1 y2 y3 y4 y5 y6 y7 y8 y9
      clear q0 q1 q2 q3 q4 q5 q6 q7 q8 q9
      obtain ⟨⟨t0, t1, t2, t3, t4⟩, t5, t6, t7, t8, t9⟩ := cells10 hzz
      refine bodyPost_ret (v := .tuple #[.agg #[.int .i64 e0, .int .i64 e1, .int .i64 e2, .int .i64 e3, .int .i64 e4, .int .i64 e5, .int .i64 e6, .int .i64 e7, .int .i64 eh, .int .i64 en], .bool true]) (by simp [results, Try.results16, go_sem, t0, t1, t2, t3, t4, t5, t6, t7, t8, t9]) rfl ⟨rfl, ?_⟩
      exact set10_ext HX.out (by omega) _ _ _ _ _ _ _ _ _ _

end Go.Proofs.Ytdpmogbibmgolaa
