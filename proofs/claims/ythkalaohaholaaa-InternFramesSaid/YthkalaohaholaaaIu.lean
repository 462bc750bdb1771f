/-
  The contract of the document's Same, of tables.
-/
import Derived.Test.YthkalaohaholaaaIt
set_option linter.unusedVariables false
set_option linter.unusedSimpArgs false
namespace Go.Proofs.Ythkalaohaholaaa
open Go.RowKit Go.Maps

def Tb.same (a b : Tb) : Bool := decide (a.ss = b.ss) && decide (a.ks = b.ks)
theorem Tb.same_iff {a b : Tb} : Tb.same a b = true ↔ a = b := by
  unfold Tb.same
  simp only [Bool.and_eq_true, decide_eq_true_eq]
  obtain ⟨x, y⟩ := a
  obtain ⟨z, u⟩ := b
  simp
theorem take_eq_next {α : Type} {xs ys : List α} {k : Nat} {x y : α} (hx : xs[k]? = some x) (hy : ys[k]? = some y) (h : xs.take k = ys.take k) (he : x = y) : xs.take (k + 1) = ys.take (k + 1) := by
  obtain ⟨h1, e1⟩ := List.getElem?_eq_some_iff.1 hx
  obtain ⟨h2, e2⟩ := List.getElem?_eq_some_iff.1 hy
  rw [List.take_succ_eq_append_getElem h1, List.take_succ_eq_append_getElem h2, h, e1, e2, he]
theorem ne_of_get {α : Type} {xs ys : List α} {k : Nat} {x y : α} (hx : xs[k]? = some x) (hy : ys[k]? = some y) (he : x ≠ y) : xs ≠ ys := by
  rintro rfl
  rw [hx] at hy
  exact he (Option.some.inj hy)
set_option maxRecDepth 100000 in
set_option maxHeartbeats 8000000 in
theorem rsametab_any (u v : Value) (a b : Tb) (w : World) (h : TabAt w u a) (h' : TabAt w v b) (ha : a.Fine) (hb : b.Fine) :
    Calls Try.prog 21 #[u, v] w fun e w' => e = .returned (.bool (Tb.same a b)) ∧ Ext w w' := by
  obtain ⟨A, c, B, d, rfl, h1, h2⟩ := h.two
  obtain ⟨A', c', B', d', rfl, h3, h4⟩ := h'.two
  obtain ⟨w1, hw1⟩ : ∃ w1, (w.alloc (.cells #[.slice A a.ss.length c, .slice B a.ks.length d] 25)).alloc (.cells #[.slice A' b.ss.length c', .slice B' b.ks.length d'] 25) = w1 := ⟨_, rfl⟩
  obtain ⟨p, hp⟩ : ∃ p, w.heap.size = p := ⟨_, rfl⟩
  have HX1 : Hid (Ext w w1) := Lib.hid (by rw [← hw1]; exact ((Ext.refl w).alloc _).alloc _)
  have HB1 : Hid (w1.heap[p]? = some (.cells #[.slice A a.ss.length c, .slice B a.ks.length d] 25 (0, 0))) := Lib.hid (by rw [← hw1, ← hp]; exact blk_alloc (blk_new w _) _)
  have HB2 : Hid (w1.heap[p + 1]? = some (.cells #[.slice A' b.ss.length c', .slice B' b.ks.length d'] 25 (0, 0))) := Lib.hid (by
    have := blk_new (w.alloc (.cells #[.slice A a.ss.length c, .slice B a.ks.length d] 25)) (.cells #[.slice A' b.ss.length c', .slice B' b.ks.length d'] 25)
    rw [hw1, show (w.alloc (.cells #[.slice A a.ss.length c, .slice B a.ks.length d] 25)).heap.size = p + 1 by simp [hp]] at this
    exact this)
  have HC0 : Hid (∀ w', Ext w1 w' → (w'.cell? ⟨w.heap.size, 0, none⟩ = some (.slice A a.ss.length c) ∧ w'.cell? ⟨w.heap.size, 1, none⟩ = some (.slice B a.ks.length d)) ∧ w'.cell? ⟨w.heap.size + 1, 0, none⟩ = some (.slice A' b.ss.length c') ∧ w'.cell? ⟨w.heap.size + 1, 1, none⟩ = some (.slice B' b.ks.length d')) := Lib.hid fun w' hx => by rw [hp]; exact ⟨⟨blk_cell (hx.blk HB1.out) 0 _ rfl, blk_cell (hx.blk HB1.out) 1 _ rfl⟩, blk_cell (hx.blk HB2.out) 0 _ rfl, blk_cell (hx.blk HB2.out) 1 _ rfl⟩
  have H1 := Lib.hid (h1.ext HX1.out)
  have H2 := Lib.hid (h2.ext HX1.out)
  have H3 := Lib.hid (h3.ext HX1.out)
  have H4 := Lib.hid (h4.ext HX1.out)
  have HFA := Lib.hid ha
  have HFB := Lib.hid hb
  have HW1 := Lib.hid hw1
  have l1 := ha.ss
  have l2 := ha.ks
  have l3 := hb.ss
  have l4 := hb.ks
  clear h h' h1 h2 h3 h4 hw1 hp ha hb
  obtain ⟨⟨b0, b1⟩, b2, b3⟩ := HC0.out w1 (Ext.refl _)
  by_cases e1 : a.ss.length = b.ss.length
  · by_cases e2 : a.ks.length = b.ks.length
    · have q1 : ((a.ss.length : Int) != (b.ss.length : Int)) = false := by simp; omega
      have q2 : ((a.ks.length : Int) != (b.ks.length : Int)) = false := by simp; omega
      have HE1 := Lib.hid e1
      have HE2 := Lib.hid e2
      clear e1 e2
      go_enter Try.func21, Try.ntmps21
      go_wp2_with fail
      rw [HW1.out]
      clear b0 b1 b2 b3
      go_loopw [5] (fun iv wr => ∃ k : Nat, k ≤ a.ss.length ∧ iv = .int .i64 k ∧ Hid (a.ss.take k = b.ss.take k) ∧ Ext w1 wr) (fun iv _ => a.ss.length - (intOf iv).toNat)
      case atStart => exact ⟨0, by omega, rfl, Lib.hid (by simp), Ext.refl _⟩
      case round =>
        obtain ⟨k, hk, rfl, HEQ, hx⟩ := hrel
        have HX := Lib.hid hx
        clear hx
        obtain ⟨⟨b0, b1⟩, b2, b3⟩ := HC0.out wr HX.out
        by_cases hlt : k < a.ss.length
        · have hlt2 : k < b.ss.length := by have := HE1.out; omega
          obtain ⟨s, hs⟩ : ∃ s, a.ss[k]? = some s := ⟨_, List.getElem?_eq_getElem hlt⟩
          obtain ⟨z, hz⟩ : ∃ z, b.ss[k]? = some z := ⟨_, List.getElem?_eq_getElem hlt2⟩
          obtain ⟨bb, o, rfl, hbb, c0⟩ := strs_get (H1.out.ext HX.out) hs
          obtain ⟨bb', o', rfl, hbb', c1⟩ := strs_get (H3.out.ext HX.out) hz
          have HS := Lib.hid hs
          have HZ := Lib.hid hz
          have he := toList_eq s z
          have i0 : (0 : Int) ≤ (k : Int) := by omega
          have i1 : (k : Int) < (a.ss.length : Int) := by omega
          have i2 : (k : Int) < (b.ss.length : Int) := by omega
          clear hs hz
          by_cases hsz : s = z
          · have HEN := Lib.hid (take_eq_next HS.out HZ.out HEQ.out hsz)
            rw [decide_eq_true hsz] at he
            clear hsz
            go_upto_region 6 with fail
            go_quiet (fail)
            go_wp2
            go_roundw
            case rel => exact ⟨k + 1, by omega, by go_num, HEN, HX.out.drewN _⟩
            case measure => simp [intOf]; omega
          · have HR : Hid (Tb.same a b = false) := Lib.hid (by unfold Tb.same; rw [decide_eq_false (ne_of_get HS.out HZ.out hsz)]; rfl)
            rw [decide_eq_false hsz] at he
            clear hsz
            go_upto_region 6 with fail
            go_quiet (fail)
            go_wp2
            go_ret
            exact ⟨by rw [HR.out] <;> rfl, HX1.out.trans (HX.out.drewN _)⟩
        · obtain rfl : k = a.ss.length := by omega
          have HSS : Hid (a.ss = b.ss) := Lib.hid (by have h := HEQ.out; rw [List.take_length, HE1.out, List.take_length] at h; exact h)
          obtain ⟨wA, rfl⟩ : ∃ wA, wA = wr := ⟨_, rfl⟩
          have HXA := Lib.hid HX.out
          clear HX
          go_wp2_with fail
          clear b0 b1 b2 b3
          rename_i hA hK hB
          clear hlt hA
          go_loopw [6] (fun iv wr => ∃ k : Nat, k ≤ a.ks.length ∧ iv = .int .i64 k ∧ Hid (a.ks.take k = b.ks.take k) ∧ Ext w1 wr) (fun iv _ => a.ks.length - (intOf iv).toNat)
          case atStart => exact ⟨0, by omega, rfl, Lib.hid (by simp), HXA.out⟩
          case round =>
            clear HXA HEQ
            obtain ⟨k, hk, rfl, HEQ, hx⟩ := hrel
            have HX := Lib.hid hx
            clear hx
            obtain ⟨⟨b0, b1⟩, b2, b3⟩ := HC0.out wr HX.out
            by_cases hlt : k < a.ks.length
            · have hlt2 : k < b.ks.length := by have := HE2.out; omega
              obtain ⟨s, hs⟩ : ∃ s, a.ks[k]? = some s := ⟨_, List.getElem?_eq_getElem hlt⟩
              obtain ⟨z, hz⟩ : ∃ z, b.ks[k]? = some z := ⟨_, List.getElem?_eq_getElem hlt2⟩
              obtain ⟨bb, o, r, rfl, hbb, c0, hr⟩ := (H2.out.ext HX.out).one hs
              obtain ⟨bb', o', r', rfl, hbb', c1, hr'⟩ := (H4.out.ext HX.out).one hz
              have HS := Lib.hid hs
              have HZ := Lib.hid hz
              have HCC : Hid (∀ w', Ext wr w' → w'.cell? ⟨bb, o + k, none⟩ = some r ∧ w'.cell? ⟨bb', o' + k, none⟩ = some r') := Lib.hid fun w' hx => ⟨(Below.cell hx hbb).trans c0, (Below.cell hx hbb').trans c1⟩
              have HCALL := Lib.hid (fun (w' : World) (hx : Ext wr w') => rsamestk_any r r' s z w' (hr.ext hx) (hr'.ext hx) (HFA.out.nums s (List.mem_of_getElem? hs)) (HFB.out.nums z (List.mem_of_getElem? hz)) (HFA.out.len s (List.mem_of_getElem? hs)))
              obtain ⟨C, q, rfl, hq⟩ := hr.form
              obtain ⟨C', q', rfl, hq'⟩ := hr'.form
              have i0 : (0 : Int) ≤ (k : Int) := by omega
              have i1 : (k : Int) < (a.ks.length : Int) := by omega
              have i2 : (k : Int) < (b.ks.length : Int) := by omega
              clear hs hz hr hr' c0 c1 b0 b2
              by_cases hsz : s = z
              · have HEN := Lib.hid (take_eq_next HS.out HZ.out HEQ.out hsz)
                rw [decide_eq_true hsz] at HCALL
                clear hsz
                go_upto_region 11 with fail
                clear b1 b3
                refine region_rgx ([(10, (fun u => u = .bool true : Value → Prop), (fun _ _ => True : (Nat → GV) → World → Prop))]) (wr) (by kernel_rfl) (by kernel_rfl) ?_ ?_ ?_
                · exact List.forall_mem_cons.2 ⟨⟨⟨_, rfl⟩, fun _ _ _ _ _ => trivial, fun _ _ _ _ _ => trivial⟩, List.forall_mem_nil _⟩
                · first | assumption | exact Ext.refl _
                refine rg_pure (v := ?_) rfl (by kernel_rfl) (by kernel_rfl) (fun w hS hN => ?_) ?_
                rotate_left 1
                · clear hN
                  go_simp
                  refine givesP_mk ?_
                  with_reducible rfl
                refine rg_pure (v := ?_) rfl (by kernel_rfl) (by kernel_rfl) (fun w hS hN => ?_) ?_
                rotate_left 1
                · have k1 := (HC0.out w (HX.out.trans hS)).1.2
                  clear hN
                  go_simp
                  refine givesP_mk ?_
                  with_reducible rfl
                refine rg_pure (v := ?_) rfl (by kernel_rfl) (by kernel_rfl) (fun w hS hN => ?_) ?_
                rotate_left 1
                · clear hN
                  go_simp
                  refine givesP_mk ?_
                  with_reducible rfl
                refine rg_pure (v := ?_) rfl (by kernel_rfl) (by kernel_rfl) (fun w hS hN => ?_) ?_
                rotate_left 1
                · clear hN
                  go_simp
                  refine givesP_mk ?_
                  with_reducible rfl
                refine rg_pure (v := ?_) rfl (by kernel_rfl) (by kernel_rfl) (fun w hS hN => ?_) ?_
                rotate_left 1
                · have k1 := (HCC.out w hS).1
                  clear hN
                  go_simp
                  refine givesP_mk ?_
                  with_reducible rfl
                refine rg_pure (v := ?_) rfl (by kernel_rfl) (by kernel_rfl) (fun w hS hN => ?_) ?_
                rotate_left 1
                · clear hN
                  go_simp
                  refine givesP_mk ?_
                  with_reducible rfl
                refine rg_pure (v := ?_) rfl (by kernel_rfl) (by kernel_rfl) (fun w hS hN => ?_) ?_
                rotate_left 1
                · have k1 := (HC0.out w (HX.out.trans hS)).2.2
                  clear hN
                  go_simp
                  refine givesP_mk ?_
                  with_reducible rfl
                refine rg_pure (v := ?_) rfl (by kernel_rfl) (by kernel_rfl) (fun w hS hN => ?_) ?_
                rotate_left 1
                · clear hN
                  go_simp
                  refine givesP_mk ?_
                  with_reducible rfl
                refine rg_pure (v := ?_) rfl (by kernel_rfl) (by kernel_rfl) (fun w hS hN => ?_) ?_
                rotate_left 1
                · clear hN
                  go_simp
                  refine givesP_mk ?_
                  with_reducible rfl
                refine rg_pure (v := ?_) rfl (by kernel_rfl) (by kernel_rfl) (fun w hS hN => ?_) ?_
                rotate_left 1
                · have k1 := (HCC.out w hS).2
                  clear hN
                  go_simp
                  refine givesP_mk ?_
                  with_reducible rfl
                refine rg_mem (fun u => u = .bool true : Value → Prop) (fun _ _ => True : (Nat → GV) → World → Prop) (fun _ => Ext) rfl rfl rfl rfl (by kernel_rfl) (by kernel_rfl) (fun w hS hN R hR => ?_) ?_
                · have HR := Lib.hid hR
                  clear hR
                  (try clear hN)
                  go_simp
                  refine givesM_call ((HCALL.out w hS).mono ?_)
                  rintro e w' ⟨rfl, hx⟩
                  exact ⟨_, rfl, HR.out _ _ rfl trivial hx⟩
                rintro u10 s10 t10 rfl
                refine rg_pure (v := ?_) rfl (by kernel_rfl) (by kernel_rfl) (fun w hS hN => ?_) ?_
                rotate_left 1
                · clear hN
                  go_simp
                  refine givesP_mk ?_
                  with_reducible rfl
                refine rg_done rfl (Nat.le_of_ble_eq_true (by kernel_rfl)) ?_
                intro w8 hS hT
                have HX8 := Lib.hid (HX.out.trans hS)
                clear hT hS
                go_simp
                go_wp2
                go_roundw
                case rel => exact ⟨k + 1, by omega, by go_num, HEN, HX8.out⟩
                case measure => simp [intOf]; omega
              · have HRR : Hid (Tb.same a b = false) := Lib.hid (by unfold Tb.same; rw [decide_eq_false (ne_of_get HS.out HZ.out hsz), Bool.and_false])
                rw [decide_eq_false hsz] at HCALL
                clear hsz
                go_upto_region 11 with fail
                clear b1 b3
                refine region_rgx ([(10, (fun u => u = .bool false : Value → Prop), (fun _ _ => True : (Nat → GV) → World → Prop))]) (wr) (by kernel_rfl) (by kernel_rfl) ?_ ?_ ?_
                · exact List.forall_mem_cons.2 ⟨⟨⟨_, rfl⟩, fun _ _ _ _ _ => trivial, fun _ _ _ _ _ => trivial⟩, List.forall_mem_nil _⟩
                · first | assumption | exact Ext.refl _
                refine rg_pure (v := ?_) rfl (by kernel_rfl) (by kernel_rfl) (fun w hS hN => ?_) ?_
                rotate_left 1
                · clear hN
                  go_simp
                  refine givesP_mk ?_
                  with_reducible rfl
                refine rg_pure (v := ?_) rfl (by kernel_rfl) (by kernel_rfl) (fun w hS hN => ?_) ?_
                rotate_left 1
                · have k1 := (HC0.out w (HX.out.trans hS)).1.2
                  clear hN
                  go_simp
                  refine givesP_mk ?_
                  with_reducible rfl
                refine rg_pure (v := ?_) rfl (by kernel_rfl) (by kernel_rfl) (fun w hS hN => ?_) ?_
                rotate_left 1
                · clear hN
                  go_simp
                  refine givesP_mk ?_
                  with_reducible rfl
                refine rg_pure (v := ?_) rfl (by kernel_rfl) (by kernel_rfl) (fun w hS hN => ?_) ?_
                rotate_left 1
                · clear hN
                  go_simp
                  refine givesP_mk ?_
                  with_reducible rfl
                refine rg_pure (v := ?_) rfl (by kernel_rfl) (by kernel_rfl) (fun w hS hN => ?_) ?_
                rotate_left 1
                · have k1 := (HCC.out w hS).1
                  clear hN
                  go_simp
                  refine givesP_mk ?_
                  with_reducible rfl
                refine rg_pure (v := ?_) rfl (by kernel_rfl) (by kernel_rfl) (fun w hS hN => ?_) ?_
                rotate_left 1
                · clear hN
                  go_simp
                  refine givesP_mk ?_
                  with_reducible rfl
                refine rg_pure (v := ?_) rfl (by kernel_rfl) (by kernel_rfl) (fun w hS hN => ?_) ?_
                rotate_left 1
                · have k1 := (HC0.out w (HX.out.trans hS)).2.2
                  clear hN
                  go_simp
                  refine givesP_mk ?_
                  with_reducible rfl
                refine rg_pure (v := ?_) rfl (by kernel_rfl) (by kernel_rfl) (fun w hS hN => ?_) ?_
                rotate_left 1
                · clear hN
                  go_simp
                  refine givesP_mk ?_
                  with_reducible rfl
                refine rg_pure (v := ?_) rfl (by kernel_rfl) (by kernel_rfl) (fun w hS hN => ?_) ?_
                rotate_left 1
                · clear hN
                  go_simp
                  refine givesP_mk ?_
                  with_reducible rfl
                refine rg_pure (v := ?_) rfl (by kernel_rfl) (by kernel_rfl) (fun w hS hN => ?_) ?_
                rotate_left 1
                · have k1 := (HCC.out w hS).2
                  clear hN
                  go_simp
                  refine givesP_mk ?_
                  with_reducible rfl
                refine rg_mem (fun u => u = .bool false : Value → Prop) (fun _ _ => True : (Nat → GV) → World → Prop) (fun _ => Ext) rfl rfl rfl rfl (by kernel_rfl) (by kernel_rfl) (fun w hS hN R hR => ?_) ?_
                · have HR := Lib.hid hR
                  clear hR
                  (try clear hN)
                  go_simp
                  refine givesM_call ((HCALL.out w hS).mono ?_)
                  rintro e w' ⟨rfl, hx⟩
                  exact ⟨_, rfl, HR.out _ _ rfl trivial hx⟩
                rintro u10 s10 t10 rfl
                refine rg_pure (v := ?_) rfl (by kernel_rfl) (by kernel_rfl) (fun w hS hN => ?_) ?_
                rotate_left 1
                · clear hN
                  go_simp
                  refine givesP_mk ?_
                  with_reducible rfl
                refine rg_done rfl (Nat.le_of_ble_eq_true (by kernel_rfl)) ?_
                intro w8 hS hT
                have HX8 := Lib.hid (HX.out.trans hS)
                clear hT hS
                go_simp
                go_wp2
                go_ret
                exact ⟨by rw [HRR.out] <;> rfl, HX1.out.trans HX8.out⟩
            · obtain rfl : k = a.ks.length := by omega
              have HKS : Hid (a.ks = b.ks) := Lib.hid (by have h := HEQ.out; rw [List.take_length, HE2.out, List.take_length] at h; exact h)
              have HRR : Hid (Tb.same a b = true) := Lib.hid (by unfold Tb.same; rw [decide_eq_true HSS.out, decide_eq_true HKS.out]; rfl)
              go_wp2
              go_ret
              exact ⟨by rw [HRR.out] <;> rfl, HX1.out.trans HX.out⟩
    · have q1 : ((a.ss.length : Int) != (b.ss.length : Int)) = false := by simp; omega
      have q2 : ((a.ks.length : Int) != (b.ks.length : Int)) = true := by simp; omega
      have HR : Hid (Tb.same a b = false) := Lib.hid (by unfold Tb.same; rw [decide_eq_false (p := a.ks = b.ks) (fun h => e2 (by rw [h])), Bool.and_false])
      clear e1 e2
      go_enter Try.func21, Try.ntmps21
      go_wp2
      go_ret
      exact ⟨by rw [HR.out] <;> rfl, by rw [HW1.out]; exact HX1.out⟩
  · have q1 : ((a.ss.length : Int) != (b.ss.length : Int)) = true := by simp; omega
    have HR : Hid (Tb.same a b = false) := Lib.hid (by unfold Tb.same; rw [decide_eq_false (p := a.ss = b.ss) (fun h => e1 (by rw [h])), Bool.false_and])
    clear e1
    go_enter Try.func21, Try.ntmps21
    go_wp2
    go_ret
    exact ⟨by rw [HR.out] <;> rfl, by rw [HW1.out]; exact HX1.out⟩

end Go.Proofs.Ythkalaohaholaaa
