/-
  Contracts of snap.mayPs and snap.mayGs.
-/
import Derived.Test.YthkogcgdikgkaaaMb
set_option linter.unusedVariables false
set_option linter.unusedSimpArgs false
namespace Go.Proofs.Ythkogcgdikgkaaa
open Go.RowKit Go.Maps

theorem ints_arr (v : World) (xs : List Int) : IntsAt (v.alloc (.cells (xs.map (Value.int .i64)).toArray 3)) (.slice (some ⟨v.heap.size, 0, none⟩) xs.length xs.length) xs := by
  refine ⟨_, _, rfl, fun _ => ⟨v.heap.size, 0, rfl, by simp, fun j x hj => ?_⟩⟩
  refine blk_cell (blk_new v _) _ _ ?_
  rw [List.getElem?_toArray, Nat.zero_add, List.getElem?_map, hj]
  rfl
theorem ints_arr2 (v : World) (g : Nat) (a b : Int) (hg : g = v.heap.size) : IntsAt (v.alloc (.cells #[.int .i64 a, .int .i64 b] 3)) (.slice (some ⟨g, 0, none⟩) 2 2) [a, b] := by subst hg; exact ints_arr v [a, b]
theorem ints_arr4 (v : World) (g : Nat) (a b c d : Int) (hg : g = v.heap.size) : IntsAt (v.alloc (.cells #[.int .i64 a, .int .i64 b, .int .i64 c, .int .i64 d] 3)) (.slice (some ⟨g, 0, none⟩) 4 4) [a, b, c, d] := by subst hg; exact ints_arr v [a, b, c, d]
theorem snNum_in {x : Int} (h : snNum x = true) : i64in x := by have := (snNum_iff x).1 h; unfold i64in; omega
theorem snfield (a c : Int) (w : World) : (Instr.field 76 (.agg #[.int .i64 a, .int .i64 c]) 0).run Try.prog w = .ok (.int .i64 a) w := by kernel_rfl
def PsPost (b n : Nat) (r : Option Hold) (w : World) (e : Ending) (w' : World) : Prop := Upd b w w' ∧ ((r = none ∧ e = .returned (.bool false)) ∨ ∃ h, r = some h ∧ e = .returned (.bool true) ∧ MapAt Try.prog 3 w' b n h)
set_option maxRecDepth 100000 in
set_option maxHeartbeats 1000000 in
theorem snps_any (v : Value) (l : List (Int × Int)) (b n : Nat) (f : Hold) (w0 w : World) (hl : RowsAt 2 snPCells w0 v l) (hx0 : Ext w0 w) (hb0 : w0.heap.size ≤ b) (h : MapAt Try.prog 3 w b n f) (hn : n + l.length ≤ 100000) :
    Calls Try.prog 25 #[v, .map (some b)] w (PsPost b (n + l.length) (snPs l f) w) := by
  obtain ⟨A, c, rfl, hc, hA⟩ := hl
  have HA := Lib.hid hA
  have H := Lib.hid h
  have HX0 := Lib.hid hx0
  have HC := Lib.hid hc
  clear hA h hx0 hc
  go_enter Try.func25, Try.ntmps25
  go_wp2
  go_loopw [9] (fun iv wr => ∃ (k : Nat) (h : Hold), k ≤ l.length ∧ iv = .int .i64 k ∧ snPs l f = snPs (l.drop k) h ∧ MapAt Try.prog 3 wr b (n + k) h ∧ Upd b w wr) (fun iv _ => l.length - (intOf iv).toNat)
  case atStart => exact ⟨0, f, by omega, rfl, rfl, H.out, Upd.refl _ _⟩
  case round =>
    obtain ⟨k, hh, hk, rfl, hs, hm, hu⟩ := hrel
    have HS := Lib.hid hs
    have HM := Lib.hid hm
    have HU := Lib.hid hu
    have hbl := hm.lt
    clear hs hm hu
    by_cases hlt : k < l.length
    · obtain ⟨bb, o, rfl, hbb, hcell⟩ := HA.out (by omega)
      have hxr := (HX0.out.upd HU.out hb0)
      have hd := List.drop_eq_getElem_cons hlt
      have h0 := hcell k l[k] (List.getElem?_eq_getElem hlt)
      generalize l[k] = p at *
      obtain ⟨p0, p1⟩ := p
      have c0 : wr.cell? ⟨bb, o + k * 2, none⟩ = some (.int .i64 p0) := by rw [Below.cell hxr hbb]; exact h0 0 _ rfl
      have c1 : wr.cell? ⟨bb, o + k * 2 + 1, none⟩ = some (.int .i64 p1) := by rw [Below.cell hxr hbb]; exact h0 1 _ rfl
      have HD := Lib.hid hd
      have HST : Hid (snPs l f = snPs ((p0, p1) :: l.drop (k + 1)) hh) := Lib.hid (by rw [HS.out, hd])
      have HI : Hid (IntsAt ((wr.alloc (.cells #[.int .i64 p0, .int .i64 p1] 46)).alloc (.cells #[.int .i64 p0, .int .i64 p1] 3)) (.slice (some ⟨wr.heap.size + 1, 0, none⟩) 2 2) [p0, p1]) := Lib.hid (ints_arr2 _ _ _ _ (by simp))
      have HX2 : Hid (Ext wr ((wr.alloc (.cells #[.int .i64 p0, .int .i64 p1] 46)).alloc (.cells #[.int .i64 p0, .int .i64 p1] 3))) := Lib.hid (((Ext.refl wr).alloc _).alloc _)
      clear hcell hd h0 hxr
      obtain ⟨r, hr⟩ : ∃ r, [p0, p1].all snNum = r := ⟨_, rfl⟩
      have HR := Lib.hid hr
      clear hr
      go_wp2_with fail
      refine (snnum_any _ [p0, p1] r HR.out _ HI.out (by simp)).mono ?_
      rintro e w2 ⟨rfl, rfl⟩
      cases r with
      | false =>
        have HE : Hid (snPs l f = none) := Lib.hid (by
          have := HR.out
          simp only [List.all_cons, List.all_nil, Bool.and_true] at this
          rw [HST.out]; unfold snPs; rw [this]; rfl)
        go_wp2
        go_ret
        exact ⟨HU.out.trans (Upd.ext HX2.out), .inl ⟨HE.out, rfl⟩⟩
      | true =>
        have hnn : snNum p0 = true ∧ snNum p1 = true := by
          have := HR.out
          simpa using this
        have HIN := Lib.hid (snNum_in hnn.1)
        have HST2 : Hid (snPs l f = if p0 = 0 then snPs (l.drop (k + 1)) hh else if 0 < (hh p0).1 then none else snPs (l.drop (k + 1)) (hh.put p0 (1, 0))) := Lib.hid (by
          rw [HST.out]; conv => lhs; unfold snPs
          simp only [hnn.1, hnn.2, Bool.and_true, if_true])
        clear hnn
        by_cases hp0 : p0 = 0
        · have e0 : (p0 == 0) = true := by simp [hp0]
          have HE : Hid (snPs l f = snPs (l.drop (k + 1)) hh) := Lib.hid (by rw [HST2.out, if_pos hp0])
          clear hp0
          go_wp2
          go_roundw
          case rel => exact ⟨k + 1, hh, by omega, by go_num, HE.out, (HM.out.ext HX2.out).mono (by omega), HU.out.trans (Upd.ext HX2.out)⟩
          case measure => simp [intOf]; omega
        · have e0 : (p0 == 0) = false := by simp [hp0]
          have HST3 : Hid (snPs l f = if 0 < (hh p0).1 then none else snPs (l.drop (k + 1)) (hh.put p0 (1, 0))) := Lib.hid (by rw [HST2.out, if_neg hp0])
          have hlook := (HM.out.ext HX2.out).look Try.underlying3 Try.underlying53 (snzero _) p0 HIN.out
          obtain ⟨⟨a, c9⟩, hfm⟩ : ∃ p, hh p0 = p := ⟨_, rfl⟩
          rw [hfm] at hlook
          simp only [pairVal] at hlook
          have HF := Lib.hid hfm
          have hfield := snfield a c9
          clear hp0 hfm
          by_cases ha : 0 < a
          · have HE : Hid (snPs l f = none) := Lib.hid (by rw [HST3.out, HF.out, if_pos ha])
            go_wp2
            go_ret
            exact ⟨HU.out.trans (Upd.ext HX2.out), .inl ⟨HE.out, rfl⟩⟩
          · have HE : Hid (snPs l f = snPs (l.drop (k + 1)) (hh.put p0 (1, 0))) := Lib.hid (by rw [HST3.out, HF.out, if_neg ha])
            obtain ⟨w3, hr3, hm3, hg3⟩ := (HM.out.ext HX2.out).store (t := 53) (e := 76) Try.underlying3 Try.underlying53 (by unfold maxLen; omega) p0 HIN.out (1, 0)
            have HR3 := Lib.hid hr3
            have HM3 := Lib.hid hm3
            have HU3 : Hid (Upd b w w3) := Lib.hid (HU.out.trans (Upd.trans (Upd.ext HX2.out) hg3))
            clear hr3 hm3 hg3
            go_wp2_with (at_mapUpdate; refine wpList_mapUpdate_run rfl _ _ _ 53 rfl (.map (some b)) (.int .i64 p0) (pairVal (1, 0)) rfl rfl rfl HR3.out ?_)
            go_roundw
            case rel => exact ⟨k + 1, hh.put p0 (1, 0), by omega, by go_num, HE.out, HM3.out, HU3.out⟩
            case measure => simp [intOf]; omega
    · obtain rfl : k = l.length := by omega
      have HE : Hid (snPs l f = some hh) := Lib.hid (by rw [HS.out, List.drop_length]; rfl)
      go_wp2
      go_ret
      exact ⟨HU.out, .inr ⟨hh, HE.out, rfl, HM.out⟩⟩

end Go.Proofs.Ythkogcgdikgkaaa
