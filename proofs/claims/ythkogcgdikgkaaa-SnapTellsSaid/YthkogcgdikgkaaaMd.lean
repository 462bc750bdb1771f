/-
  Contracts of snap.mayGs and snap.May.
-/
import Derived.Test.YthkogcgdikgkaaaMc
set_option linter.unusedVariables false
set_option linter.unusedSimpArgs false
namespace Go.Proofs.Ythkogcgdikgkaaa
open Go.RowKit Go.Maps

set_option maxRecDepth 100000 in
set_option maxHeartbeats 1000000 in
theorem sngs_any (v : Value) (l : List Gs4) (b n : Nat) (f : Hold) (w0 w : World) (hl : RowsAt 4 snGCells w0 v l) (hx0 : Ext w0 w) (hb0 : w0.heap.size ≤ b) (h : MapAt Try.prog 3 w b n f) (hn : n + l.length ≤ 100000) :
    Calls Try.prog 26 #[v, .map (some b)] w fun e w' => e = .returned (.bool (snGs l 0 f)) ∧ Upd b w w' := by
  obtain ⟨A, c, rfl, hc, hA⟩ := hl
  have HA := Lib.hid hA
  have H := Lib.hid h
  have HX0 := Lib.hid hx0
  have HC := Lib.hid hc
  clear hA h hx0 hc
  go_enter Try.func26, Try.ntmps26
  go_wp2
  go_loopw [5, 10] (fun lv iv wr => ∃ (k : Nat) (h : Hold) (last : Int), k ≤ l.length ∧ iv = .int .i64 k ∧ lv = .int .i64 last ∧ snGs l 0 f = snGs (l.drop k) last h ∧ MapAt Try.prog 3 wr b (n + k) h ∧ Upd b w wr) (fun _ iv _ => l.length - (intOf iv).toNat)
  case atStart => exact ⟨0, f, 0, by omega, rfl, rfl, rfl, H.out, Upd.refl _ _⟩
  case round =>
    obtain ⟨k, hh, last, hk, rfl, rfl, hs, hm, hu⟩ := hrel
    have HS := Lib.hid hs
    have HM := Lib.hid hm
    have HU := Lib.hid hu
    have hbl := hm.lt
    clear hs hm hu
    by_cases hlt : k < l.length
    · obtain ⟨bb, o, rfl, hbb, hcell⟩ := HA.out (by omega)
      have hxr := (HX0.out.upd HU.out hb0)
      have hd := List.drop_eq_getElem_cons hlt
      have h0 := hcell k l[k] (List.getElem?_eq_getElem hlt)
      generalize l[k] = p at *
      obtain ⟨g, st, m, q⟩ := p
      have c0 : wr.cell? ⟨bb, o + k * 4, none⟩ = some (.int .i64 g) := by rw [Below.cell hxr hbb]; exact h0 0 _ rfl
      have c1 : wr.cell? ⟨bb, o + k * 4 + 1, none⟩ = some (.int .i64 st) := by rw [Below.cell hxr hbb]; exact h0 1 _ rfl
      have c2 : wr.cell? ⟨bb, o + k * 4 + 2, none⟩ = some (.int .i64 m) := by rw [Below.cell hxr hbb]; exact h0 2 _ rfl
      have c3 : wr.cell? ⟨bb, o + k * 4 + 3, none⟩ = some (.int .i64 q) := by rw [Below.cell hxr hbb]; exact h0 3 _ rfl
      have HST : Hid (snGs l 0 f = snGs ((g, st, m, q) :: l.drop (k + 1)) last hh) := Lib.hid (by rw [HS.out, hd])
      have HI : Hid (IntsAt ((wr.alloc (.cells #[.int .i64 g, .int .i64 st, .int .i64 m, .int .i64 q] 36)).alloc (.cells #[.int .i64 g, .int .i64 st, .int .i64 m, .int .i64 q] 3)) (.slice (some ⟨wr.heap.size + 1, 0, none⟩) 4 4) [g, st, m, q]) := Lib.hid (ints_arr4 _ _ _ _ _ _ (by simp))
      have HX2 : Hid (Ext wr ((wr.alloc (.cells #[.int .i64 g, .int .i64 st, .int .i64 m, .int .i64 q] 36)).alloc (.cells #[.int .i64 g, .int .i64 st, .int .i64 m, .int .i64 q] 3))) := Lib.hid (((Ext.refl wr).alloc _).alloc _)
      have HBX : Hid (((wr.alloc (.cells #[.int .i64 g, .int .i64 st, .int .i64 m, .int .i64 q] 36)).alloc (.cells #[.int .i64 g, .int .i64 st, .int .i64 m, .int .i64 q] 3)).heap[wr.heap.size]? = some (.cells #[.int .i64 g, .int .i64 st, .int .i64 m, .int .i64 q] 36 (0, 0))) := Lib.hid (blk_alloc (blk_new wr (.cells #[.int .i64 g, .int .i64 st, .int .i64 m, .int .i64 q] 36)) (.cells #[.int .i64 g, .int .i64 st, .int .i64 m, .int .i64 q] 3))
      clear hcell hd h0 hxr
      obtain ⟨r, hr⟩ : ∃ r, [g, st, m, q].all snNum = r := ⟨_, rfl⟩
      have HR := Lib.hid hr
      clear hr
      go_wp2_with fail
      refine (snnum_any _ [g, st, m, q] r HR.out _ HI.out (by simp)).mono ?_
      rintro e w2 ⟨rfl, rfl⟩
      clear c0 c1 c2 c3
      cases r with
      | false =>
        have HE : Hid (snGs l 0 f = false) := Lib.hid (by
          have := HR.out
          simp only [List.all_cons, List.all_nil, Bool.and_true] at this
          rw [HST.out]; unfold snGs; simp only
          rw [show (snNum g && snNum st && snNum m && snNum q) = false from by rw [← this]; simp [Bool.and_assoc]]
          rfl)
        go_wp2
        go_ret
        exact ⟨(by rw [HE.out]; first | done | rfl), HU.out.trans (Upd.ext HX2.out)⟩
      | true =>
        have hnn : snNum g = true ∧ snNum st = true ∧ snNum m = true ∧ snNum q = true := by
          have := HR.out
          simpa using this
        have HIN := Lib.hid (snNum_in hnn.2.2.1)
        have HST2 : Hid (snGs l 0 f = if decide (last < g) && (snHold (g, st, m, q) hh).1 then snGs (l.drop (k + 1)) g (snHold (g, st, m, q) hh).2 else false) := Lib.hid (by
          rw [HST.out]; conv => lhs; unfold snGs
          simp only [hnn.1, hnn.2.1, hnn.2.2.1, hnn.2.2.2, Bool.and_true, Bool.true_and])
        clear hnn
        by_cases hgl : g ≤ last
        · have HE : Hid (snGs l 0 f = false) := Lib.hid (by rw [HST2.out, decide_eq_false (by omega)]; rfl)
          go_wp2
          go_ret
          exact ⟨(by rw [HE.out]; first | done | rfl), HU.out.trans (Upd.ext HX2.out)⟩
        · have hgl2 : last < g := by omega
          clear hgl
          obtain ⟨⟨r2, h2⟩, hr2⟩ : ∃ p, snHold (g, st, m, q) hh = p := ⟨_, rfl⟩
          have HSH := Lib.hid hr2
          clear hr2
          have HST3 : Hid (snGs l 0 f = if r2 = true then snGs (l.drop (k + 1)) g h2 else false) := Lib.hid (by rw [HST2.out, HSH.out, decide_eq_true hgl2]; rfl)
          go_wp2_with fail
          refine (snhold_any g st m q b (n + k) hh _ (HM.out.ext HX2.out) (by omega) HIN.out).mono ?_
          rintro e w3 ⟨he, hm3, hu3⟩
          rw [HSH.out] at he hm3
          subst he
          have HM3 := Lib.hid hm3
          have HU3 : Hid (Upd b w w3) := Lib.hid (HU.out.trans ((Upd.ext HX2.out).trans hu3))
          have p0 := blk_cell (Upd.blk hu3 HBX.out (by omega)) 0 (.int .i64 g) rfl
          clear hm3 hu3
          simp only
          cases r2 with
          | false =>
            have HE : Hid (snGs l 0 f = false) := Lib.hid (by rw [HST3.out]; rfl)
            go_wp2
            go_ret
            exact ⟨(by rw [HE.out]; first | done | rfl), HU3.out⟩
          | true =>
            have HE : Hid (snGs l 0 f = snGs (l.drop (k + 1)) g h2) := Lib.hid (by rw [HST3.out, if_pos rfl])
            go_wp2
            go_roundw
            case rel => exact ⟨k + 1, h2, g, by omega, by go_num, rfl, HE.out, HM3.out, HU3.out⟩
            case measure => simp [intOf]; omega
    · obtain rfl : k = l.length := by omega
      have HE : Hid (snGs l 0 f = true) := Lib.hid (by rw [HS.out, List.drop_length]; rfl)
      go_wp2
      go_ret
      exact ⟨(by rw [HE.out]; first | done | rfl), HU.out⟩
/-- A snap in memory. -/
def SnAt (w : World) (v : Value) (s : Sn) : Prop := ∃ A c B d, v = .agg #[.int .i64 s.time, .slice A s.ps.length c, .slice B s.gs.length d] ∧ RowsAt 2 snPCells w (.slice A s.ps.length c) s.ps ∧ RowsAt 4 snGCells w (.slice B s.gs.length d) s.gs
theorem SnAt.ext {w w' : World} {v : Value} {s : Sn} (h : SnAt w v s) (hx : Ext w w') : SnAt w' v s := by
  obtain ⟨A, c, B, d, h1, h2, h3⟩ := h
  exact ⟨A, c, B, d, h1, h2.ext hx, h3.ext hx⟩
set_option maxRecDepth 100000 in
set_option maxHeartbeats 1000000 in
theorem snmay_any (v : Value) (s : Sn) (w : World) (hs : SnAt w v s) (hp : s.ps.length ≤ 10000) (hg : s.gs.length ≤ 10000) :
    Calls Try.prog 12 #[v] w fun e w' => e = .returned (.bool s.may) ∧ Ext w w' := by
  obtain ⟨A, c, B, d, rfl, h2, h3⟩ := hs
  obtain ⟨time, ps, gs⟩ := s
  simp only at h2 h3 hp hg ⊢
  have H2 := Lib.hid h2
  have H3 := Lib.hid h3
  have HI : Hid (IntsAt ((w.alloc (.cells #[.int .i64 time, .slice A ps.length c, .slice B gs.length d] 25)).alloc (.cells #[.int .i64 time] 3)) (.slice (some ⟨w.heap.size + 1, 0, none⟩) 1 1) [time]) := Lib.hid (by have := ints_arr (w.alloc (.cells #[.int .i64 time, .slice A ps.length c, .slice B gs.length d] 25)) [time]; rw [World.size_alloc] at this; exact this)
  have HX2 : Hid (Ext w ((w.alloc (.cells #[.int .i64 time, .slice A ps.length c, .slice B gs.length d] 25)).alloc (.cells #[.int .i64 time] 3))) := Lib.hid (((Ext.refl w).alloc _).alloc _)
  have HBX : Hid (((w.alloc (.cells #[.int .i64 time, .slice A ps.length c, .slice B gs.length d] 25)).alloc (.cells #[.int .i64 time] 3)).heap[w.heap.size]? = some (.cells #[.int .i64 time, .slice A ps.length c, .slice B gs.length d] 25 (0, 0))) := Lib.hid (blk_alloc (blk_new w (.cells #[.int .i64 time, .slice A ps.length c, .slice B gs.length d] 25)) (.cells #[.int .i64 time] 3))
  have HMAY : Hid (Sn.may ⟨time, ps, gs⟩ = (snNum time && decide (ps.length ≤ 64) && decide (gs.length ≤ 1000) && (match snPs ps (fun _ => (0, 0)) with | none => false | some h => snGs gs 0 h))) := Lib.hid rfl
  clear h2 h3
  obtain ⟨r, hr⟩ : ∃ r, [time].all snNum = r := ⟨_, rfl⟩
  have HR := Lib.hid hr
  have HRT : Hid (snNum time = r) := Lib.hid (by simpa using hr)
  clear hr
  generalize hres : Sn.may ⟨time, ps, gs⟩ = res at *
  clear hres
  have hmk : ∀ w, (Instr.makeMap 53 none).run Try.prog w = .ok (.map (some w.heap.size)) (w.alloc (.map #[] 0)) := fun w => by kernel_rfl
  cases r with
  | false =>
    have HE : Hid (res = false) := Lib.hid (by rw [HMAY.out, HRT.out]; rfl)
    go_enter Try.func12, Try.ntmps12
    go_wp2_with fail
    refine (snnum_any _ [time] false HR.out _ HI.out (by simp)).mono ?_
    rintro e w2 ⟨rfl, rfl⟩
    go_wp2
    go_ret
    exact ⟨(by rw [HE.out]; first | done | rfl), HX2.out⟩
  | true =>
    by_cases h64 : ps.length ≤ 64
    · by_cases h1000 : gs.length ≤ 1000
      · have HE : Hid (res = (match snPs ps (fun _ => (0, 0)) with | none => false | some h => snGs gs 0 h)) := Lib.hid (by rw [HMAY.out, HRT.out, decide_eq_true h64, decide_eq_true h1000]; rfl)
        have i64 : (ps.length : Int) ≤ 64 := by omega
        have i1000 : (gs.length : Int) ≤ 1000 := by omega
        obtain ⟨rp, hrp⟩ : ∃ p, snPs ps (fun _ => (0, 0)) = p := ⟨_, rfl⟩
        have HRP := Lib.hid hrp
        have HMZ := Lib.hid (MapAt.made (P := Try.prog) (k := 3) ((w.alloc (.cells #[.int .i64 time, .slice A ps.length c, .slice B gs.length d] 25)).alloc (.cells #[.int .i64 time] 3)))
        have hsz3 : ((w.alloc (.cells #[.int .i64 time, .slice A ps.length c, .slice B gs.length d] 25)).alloc (.cells #[.int .i64 time] 3)).heap.size = w.heap.size + 2 := by simp
        have HSZ := Lib.hid hsz3
        clear hrp hsz3
        go_enter Try.func12, Try.ntmps12
        go_wp2_with fail
        refine (snnum_any _ [time] true HR.out _ HI.out (by simp)).mono ?_
        rintro e w2 ⟨rfl, rfl⟩
        go_wp2_with fail
        have hM : MapAt Try.prog 3 (((w.alloc (.cells #[.int .i64 time, .slice A ps.length c, .slice B gs.length d] 25)).alloc (.cells #[.int .i64 time] 3)).alloc (.map #[] 0)) (w.heap.size + 1 + 1) 0 (fun _ => (0, 0)) := by have := HMZ.out; rwa [HSZ.out] at this
        refine (snps_any _ ps (w.heap.size + 1 + 1) 0 (fun _ => (0, 0)) w _ H2.out (HX2.out.alloc _) (by omega) hM (by omega)).mono ?_
        rintro e w4 ⟨hu4, hpost⟩
        have hu4' : Ext w w4 := (HX2.out.alloc _).upd hu4 (by omega)
        have hb4 := Upd.blk hu4 (blk_alloc HBX.out (.map #[] 0)) (by omega)
        have q2 := blk_cell hb4 2 (.slice B gs.length d) rfl
        have HX4 := Lib.hid hu4'
        rcases hpost with ⟨hn1, rfl⟩ | ⟨h', hn1, rfl, hm4⟩
        · have HE2 : Hid (res = false) := Lib.hid (by rw [HE.out, hn1])
          clear hu4 hu4' hb4 hn1 hM
          go_wp2
          go_ret
          exact ⟨(by rw [HE2.out]; first | done | rfl), HX4.out⟩
        · have HE2 : Hid (res = snGs gs 0 h') := Lib.hid (by rw [HE.out, hn1])
          have HM4 := Lib.hid hm4
          clear hu4 hu4' hb4 hn1 hm4 hM
          go_wp2_with fail
          refine (sngs_any _ gs (w.heap.size + 1 + 1) (0 + ps.length) h' w _ H3.out HX4.out (by omega) HM4.out (by omega)).mono ?_
          rintro e w5 ⟨rfl, hu5⟩
          have HX5 := Lib.hid (HX4.out.upd hu5 (by omega))
          clear hu5
          go_wp2
          go_ret
          exact ⟨(by rw [HE2.out]; first | done | rfl), HX5.out⟩
      · have HE : Hid (res = false) := Lib.hid (by rw [HMAY.out, HRT.out, decide_eq_false h1000]; simp)
        have i64 : (ps.length : Int) ≤ 64 := by omega
        have i1000 : 1000 < (gs.length : Int) := by omega
        go_enter Try.func12, Try.ntmps12
        go_wp2_with fail
        refine (snnum_any _ [time] true HR.out _ HI.out (by simp)).mono ?_
        rintro e w2 ⟨rfl, rfl⟩
        go_wp2
        go_ret
        exact ⟨(by rw [HE.out]; first | done | rfl), HX2.out⟩
    · have HE : Hid (res = false) := Lib.hid (by rw [HMAY.out, HRT.out, decide_eq_false h64]; simp)
      have i64 : 64 < (ps.length : Int) := by omega
      go_enter Try.func12, Try.ntmps12
      go_wp2_with fail
      refine (snnum_any _ [time] true HR.out _ HI.out (by simp)).mono ?_
      rintro e w2 ⟨rfl, rfl⟩
      go_wp2
      go_ret
      exact ⟨(by rw [HE.out]; first | done | rfl), HX2.out⟩

end Go.Proofs.Ythkogcgdikgkaaa
