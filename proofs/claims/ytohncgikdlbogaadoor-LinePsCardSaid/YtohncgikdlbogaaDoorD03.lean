/-
  Several texts in one: Hb, Hc, Nm, Nn, Tc, Td, Tp, Tzf, Gk, Gl, Hd, He, Hf, Hg, Hh, Rv, Rw, Hi, Hl, Hm, Gs, Hs, Hv.
-/
import Derived.Test.YtohncgikdlbogaaDoorD01
import Derived.Test.YtohncgikdlbogaaDoorD02
import Derived.Recover
import Derived.WalkLawsBesides
import Derived.Deep.Cut
import Derived.Deep.DeepCutAuto
import Derived.DeepKeys
import Derived.Lib.SliceRun
import Derived.Deep.MidRow
import Derived.Laws.ResultCell
import Derived.Laws.Rows
import Derived.Laws.OwnMore
set_option linter.unusedVariables false
set_option linter.unusedSimpArgs false
namespace Go.Proofs.YtohncgikdlbogaaDoor
open Go.RowKit
def impV : Value := .iface 86 (.agg #[])
def impC : List PanicEntry := [{ v := impV, recovered := false }]
theorem need_yes (w : World) : Calls Tryd.prog 45 #[.bool true] w fun e w' => e = .returned (.tuple #[]) ∧ w' = w := by
  go_enter Tryd.func45, Tryd.ntmps45
  go_wp2
  first | go_end0 | skip
  exact ⟨rfl, rfl⟩
theorem need_no (w : World) : Calls Tryd.prog 45 #[.bool false] w fun e w' => e = .panicked impC ∧ w' = w := by
  go_enter Tryd.func45, Tryd.ntmps45
  go_wp2
  exact ⟨rfl, rfl, rfl⟩
theorem Md.hasP_no {m : Int} : ∀ {l : List (Int × Int)} {i : Int}, (∀ (j : Nat) p, l[j]? = some p → p.1 ≠ m) → Md.hasP l m i = 0
  | [], _, _ => rfl
  | p :: l, i, h => by
    unfold Md.hasP
    rw [if_neg (h 0 p rfl)]
    exact Md.hasP_no fun j q hq => h (j + 1) q (by simpa using hq)
theorem Md.hasP_at {m : Int} : ∀ {l : List (Int × Int)} {i : Int} {k : Nat} {p : Int × Int}, l[k]? = some p → p.1 = m → (∀ (j : Nat) q, l[j]? = some q → j < k → q.1 ≠ m) → Md.hasP l m i = i + (k : Int)
  | [], _, _, _, h, _, _ => by simp at h
  | q :: l, i, 0, p, h, h1, h2 => by
    obtain rfl : q = p := by simpa using h
    unfold Md.hasP
    rw [if_pos h1]; simp
  | q :: l, i, k + 1, p, h, h1, h2 => by
    unfold Md.hasP
    rw [if_neg (h2 0 q rfl (by omega)), Md.hasP_at (k := k) (p := p) (by simpa using h) h1 fun j r hr hj => h2 (j + 1) r (by simpa using hr) (by omega)]
    omega
theorem Md.hasG_no {m : Int} : ∀ {l : List Gs4}, (∀ (j : Nat) g, l[j]? = some g → g.2.2.1 ≠ m) → Md.hasG l m = 0
  | [], _ => rfl
  | g :: l, h => by
    unfold Md.hasG
    rw [if_neg (h 0 g rfl)]
    exact Md.hasG_no fun j q hq => h (j + 1) q (by simpa using hq)
theorem Md.hasG_at {m : Int} : ∀ {l : List Gs4} {k : Nat} {g : Gs4}, l[k]? = some g → g.2.2.1 = m → (∀ (j : Nat) q, l[j]? = some q → j < k → q.2.2.1 ≠ m) → Md.hasG l m = g.1
  | [], _, _, h, _, _ => by simp at h
  | q :: l, 0, p, h, h1, h2 => by
    obtain rfl : q = p := by simpa using h
    unfold Md.hasG
    rw [if_pos h1]
  | q :: l, k + 1, p, h, h1, h2 => by
    unfold Md.hasG
    rw [if_neg (h2 0 q rfl (by omega)), Md.hasG_at (k := k) (g := p) (by simpa using h) h1 fun j r hr hj => h2 (j + 1) r (by simpa using hr) (by omega)]
theorem hclo1_any (x : Int × Int) (g : Int) (G : Nat) (r : Bool) (hr : (x.1 == g) = r) (w : World) (hG : w.cell? ⟨G, 0, none⟩ = some (.int .i64 g)) (hlt : G < w.heap.size) : Calls Tryd.prog 60 #[.agg #[.int .i64 x.1, .int .i64 x.2], .pointer (some ⟨G, 0, none⟩)] w fun e w' => e = .returned (.bool r) ∧ Ext w w' := by
  obtain ⟨w1, hw1⟩ : ∃ w1, w.alloc (.cells #[.int .i64 x.1, .int .i64 x.2] 61) = w1 := ⟨_, rfl⟩
  have hx : Ext w w1 := by rw [← hw1]; exact (Ext.refl w).alloc _
  have hb : w1.heap[w.heap.size]? = some (.cells #[.int .i64 x.1, .int .i64 x.2] 61 (0, 0)) := by rw [← hw1]; exact blk_new w _
  have hG1 : w1.cell? ⟨G, 0, none⟩ = some (.int .i64 g) := by rw [Below.cell (p := ⟨G, 0, none⟩) hx hlt]; exact hG
  have h1 := blk_cell hb 0 _ rfl
  have HX := Lib.hid hx
  have HR := Lib.hid hr
  have HW := Lib.hid hw1
  clear hx hb hG hr hw1 hlt
  go_enter Tryd.func60, Tryd.ntmps60
  go_upto_region 1 with fail
  rw [HW.out]
  go_wp2
  go_ret
  exact ⟨by rw [← HR.out] <;> rfl, HX.out⟩
theorem hclo2_any (x : Gs4) (g : Int) (G : Nat) (r : Bool) (hr : (x.2.2.1 == g) = r) (w : World) (hG : w.cell? ⟨G, 0, none⟩ = some (.int .i64 g)) (hlt : G < w.heap.size) : Calls Tryd.prog 61 #[.agg #[.int .i64 x.1, .int .i64 x.2.1, .int .i64 x.2.2.1, .int .i64 x.2.2.2], .pointer (some ⟨G, 0, none⟩)] w fun e w' => e = .returned (.bool r) ∧ Ext w w' := by
  obtain ⟨w1, hw1⟩ : ∃ w1, w.alloc (.cells #[.int .i64 x.1, .int .i64 x.2.1, .int .i64 x.2.2.1, .int .i64 x.2.2.2] 49) = w1 := ⟨_, rfl⟩
  have hx : Ext w w1 := by rw [← hw1]; exact (Ext.refl w).alloc _
  have hb : w1.heap[w.heap.size]? = some (.cells #[.int .i64 x.1, .int .i64 x.2.1, .int .i64 x.2.2.1, .int .i64 x.2.2.2] 49 (0, 0)) := by rw [← hw1]; exact blk_new w _
  have hG1 : w1.cell? ⟨G, 0, none⟩ = some (.int .i64 g) := by rw [Below.cell (p := ⟨G, 0, none⟩) hx hlt]; exact hG
  have h1 := blk_cell hb 2 _ rfl
  have HX := Lib.hid hx
  have HR := Lib.hid hr
  have HW := Lib.hid hw1
  clear hx hb hG hr hw1 hlt
  go_enter Tryd.func61, Tryd.ntmps61
  go_upto_region 1 with fail
  rw [HW.out]
  go_wp2
  go_ret
  exact ⟨by rw [← HR.out] <;> rfl, HX.out⟩
set_option maxRecDepth 100000 in
set_option maxHeartbeats 2000000 in
theorem hidx1_any (A : Option Addr) (c : Nat) (l : List (Int × Int)) (g : Int) (G : Nat) (w : World) (h : RowsAt 2 snPCells w (.slice A l.length c) l) (hl : l.length ≤ 100000000) (hG : w.cell? ⟨G, 0, none⟩ = some (.int .i64 g)) (hGl : G < w.heap.size) :
    Calls Tryd.prog 59 #[.slice A l.length c, .func (.func 60) #[] #[.pointer (some ⟨G, 0, none⟩)]] w fun e w' => ∃ i : Int, e = .returned (.int .i64 i) ∧ ((i = -1 ∧ ∀ (j : Nat) x, l[j]? = some x → x.1 ≠ g) ∨ ∃ k : Nat, i = (k : Int) ∧ (∃ x, l[k]? = some x ∧ x.1 = g) ∧ ∀ (j : Nat) x, l[j]? = some x → j < k → x.1 ≠ g) ∧ Ext w w' := by
  have H := Lib.hid h
  have HG := Lib.hid hG
  have HGL := Lib.hid hGl
  have hl' : (l.length : Int) ≤ 100000000 := by omega
  clear h hG hGl
  go_enter Tryd.func59, Tryd.ntmps59
  go_wp2_with fail
  go_loopw [8] (fun iv wr => ∃ k : Nat, k ≤ l.length ∧ iv = .int .i64 k ∧ (∀ (j : Nat) x, l[j]? = some x → j < k → x.1 ≠ g) ∧ Ext w wr) (fun iv _ => l.length - (intOf iv).toNat)
  case atStart => exact ⟨0, Nat.zero_le _, rfl, fun j x _ h => by omega, Ext.refl _⟩
  case round =>
    obtain ⟨k, hk, rfl, hall, hx⟩ := hrel
    have HA := Lib.hid hall
    have HX := Lib.hid hx
    clear hall hx
    by_cases hlt : k < l.length
    · obtain ⟨x, hx⟩ : ∃ x, l[k]? = some x := ⟨_, List.getElem?_eq_getElem hlt⟩
      have HXK := Lib.hid hx
      have hcl := hclo1_any x g G _ rfl wr (by rw [Below.cell (p := ⟨G, 0, none⟩) HX.out HGL.out]; exact HG.out) (Nat.lt_of_lt_of_le HGL.out HX.out.size)
      have HCL := Lib.hid hcl
      obtain ⟨b, o, rfl, hb, hc⟩ := (H.out.ext HX.out).get hx
      have c0 := hc 0 _ rfl; have c1 := hc 1 _ rfl
      rw [Nat.add_zero] at c0
      clear hx hb hcl hc
      go_wp2_with fail
      refine HCL.out.mono ?_
      rintro e wa ⟨rfl, hxa⟩
      have HXA := Lib.hid (HX.out.trans hxa)
      clear hxa c0 c1
      by_cases h1 : x.1 = g
      · have HN := Lib.hid h1
        have h1' : (x.1 == g) = true := by simpa using h1
        clear h1
        go_wp2
        go_ret
        exact ⟨k, rfl, .inr ⟨k, rfl, ⟨x, HXK.out, HN.out⟩, HA.out⟩, HXA.out⟩
      · have h1' : (x.1 == g) = false := by simpa using h1
        have HN := Lib.hid h1
        clear h1
        go_wp2
        go_roundw
        case rel =>
          refine ⟨k + 1, by omega, by go_num, fun j y hy hj => ?_, HXA.out⟩
          by_cases hjk : j < k
          · exact HA.out j y hy hjk
          · obtain rfl : j = k := by omega
            have := HXK.out
            rw [hy] at this
            injection this with this
            rw [this]
            exact HN.out
        case measure => simp [intOf]; omega
    · obtain rfl : k = l.length := by omega
      go_wp2
      go_ret
      exact ⟨-1, rfl, .inl ⟨rfl, fun j x hj => HA.out j x hj (List.getElem?_eq_some_iff.1 hj).1⟩, HX.out⟩
set_option maxRecDepth 100000 in
set_option maxHeartbeats 2000000 in
theorem hidx2_any (A : Option Addr) (c : Nat) (l : List Gs4) (g : Int) (G : Nat) (w : World) (h : RowsAt 4 snGCells w (.slice A l.length c) l) (hl : l.length ≤ 100000000) (hG : w.cell? ⟨G, 0, none⟩ = some (.int .i64 g)) (hGl : G < w.heap.size) :
    Calls Tryd.prog 19 #[.slice A l.length c, .func (.func 61) #[] #[.pointer (some ⟨G, 0, none⟩)]] w fun e w' => ∃ i : Int, e = .returned (.int .i64 i) ∧ ((i = -1 ∧ ∀ (j : Nat) x, l[j]? = some x → x.2.2.1 ≠ g) ∨ ∃ k : Nat, i = (k : Int) ∧ (∃ x, l[k]? = some x ∧ x.2.2.1 = g) ∧ ∀ (j : Nat) x, l[j]? = some x → j < k → x.2.2.1 ≠ g) ∧ Ext w w' := by
  have H := Lib.hid h
  have HG := Lib.hid hG
  have HGL := Lib.hid hGl
  have hl' : (l.length : Int) ≤ 100000000 := by omega
  clear h hG hGl
  go_enter Tryd.func19, Tryd.ntmps19
  go_wp2_with fail
  go_loopw [8] (fun iv wr => ∃ k : Nat, k ≤ l.length ∧ iv = .int .i64 k ∧ (∀ (j : Nat) x, l[j]? = some x → j < k → x.2.2.1 ≠ g) ∧ Ext w wr) (fun iv _ => l.length - (intOf iv).toNat)
  case atStart => exact ⟨0, Nat.zero_le _, rfl, fun j x _ h => by omega, Ext.refl _⟩
  case round =>
    obtain ⟨k, hk, rfl, hall, hx⟩ := hrel
    have HA := Lib.hid hall
    have HX := Lib.hid hx
    clear hall hx
    by_cases hlt : k < l.length
    · obtain ⟨x, hx⟩ : ∃ x, l[k]? = some x := ⟨_, List.getElem?_eq_getElem hlt⟩
      have HXK := Lib.hid hx
      have hcl := hclo2_any x g G _ rfl wr (by rw [Below.cell (p := ⟨G, 0, none⟩) HX.out HGL.out]; exact HG.out) (Nat.lt_of_lt_of_le HGL.out HX.out.size)
      have HCL := Lib.hid hcl
      obtain ⟨b, o, rfl, hb, hc⟩ := (H.out.ext HX.out).get hx
      have c0 := hc 0 _ rfl; have c1 := hc 1 _ rfl; have c2 := hc 2 _ rfl; have c3 := hc 3 _ rfl
      rw [Nat.add_zero] at c0
      clear hx hb hcl hc
      go_wp2_with fail
      refine HCL.out.mono ?_
      rintro e wa ⟨rfl, hxa⟩
      have HXA := Lib.hid (HX.out.trans hxa)
      clear hxa c0 c1 c2 c3
      by_cases h1 : x.2.2.1 = g
      · have HN := Lib.hid h1
        have h1' : (x.2.2.1 == g) = true := by simpa using h1
        clear h1
        go_wp2
        go_ret
        exact ⟨k, rfl, .inr ⟨k, rfl, ⟨x, HXK.out, HN.out⟩, HA.out⟩, HXA.out⟩
      · have h1' : (x.2.2.1 == g) = false := by simpa using h1
        have HN := Lib.hid h1
        clear h1
        go_wp2
        go_roundw
        case rel =>
          refine ⟨k + 1, by omega, by go_num, fun j y hy hj => ?_, HXA.out⟩
          by_cases hjk : j < k
          · exact HA.out j y hy hjk
          · obtain rfl : j = k := by omega
            have := HXK.out
            rw [hy] at this
            injection this with this
            rw [this]
            exact HN.out
        case measure => simp [intOf]; omega
    · obtain rfl : k = l.length := by omega
      go_wp2
      go_ret
      exact ⟨-1, rfl, .inl ⟨rfl, fun j x hj => HA.out j x hj (List.getElem?_eq_some_iff.1 hj).1⟩, HX.out⟩
set_option maxRecDepth 100000 in
set_option maxHeartbeats 2000000 in
theorem mhas_any (v : Value) (x : Sn) (m : Int) (w : World) (hs : SnAt w v x) (hp : x.ps.length ≤ 10000) (hg : x.gs.length ≤ 10000) (ra rb : Int) (hra : Md.hasP x.ps m 1 = ra) (hrb : Md.hasG x.gs m = rb) :
    Calls Tryd.prog 46 #[v, .int .i64 m] w fun e w' => e = .returned (.tuple #[.int .i64 ra, .int .i64 rb]) ∧ Ext w w' := by
  subst hra hrb
  obtain ⟨A, c, B, d, rfl, h2, h3⟩ := hs
  obtain ⟨time, ps, gs⟩ := x
  simp only at h2 h3 hp hg ⊢
  obtain ⟨w1, hw1⟩ : ∃ w1, (w.alloc (.cells #[.int .i64 time, .slice A ps.length c, .slice B gs.length d] 25)).alloc (.cells #[.int .i64 m] 3) = w1 := ⟨_, rfl⟩
  have hx1 : Ext w w1 := by rw [← hw1]; exact ((Ext.refl w).alloc _).alloc _
  have hb1 : w1.heap[w.heap.size]? = some (.cells #[.int .i64 time, .slice A ps.length c, .slice B gs.length d] 25 (0, 0)) := by rw [← hw1]; exact blk_alloc (blk_new w _) _
  have hb2 : w1.heap[w.heap.size + 1]? = some (.cells #[.int .i64 m] 3 (0, 0)) := by rw [← hw1, ← World.size_alloc w (.cells #[.int .i64 time, .slice A ps.length c, .slice B gs.length d] 25)]; exact blk_new _ _
  obtain ⟨S0, hS0⟩ : ∃ S0, w.heap.size = S0 := ⟨_, rfl⟩
  rw [hS0] at hb1 hb2
  have HS0 := Lib.hid hS0
  have HW1 := Lib.hid hw1
  have HX1 := Lib.hid hx1
  have HB1 := Lib.hid hb1
  have HB2 := Lib.hid hb2
  have H2 := Lib.hid (h2.ext hx1)
  have H3 := Lib.hid (h3.ext hx1)
  have HP := Lib.hid hp
  have HG := Lib.hid hg
  have c1 := blk_cell hb1 1 _ rfl
  have hmf : ∀ (fn : Fn) (first cap : Array Value) (w : World), (Instr.makeFunc fn first cap).run Tryd.prog w = .ok (.func fn first cap) w := fun _ _ _ _ => rfl
  clear h2 h3 hx1 hb1 hb2 hw1 hS0 hp hg
  go_enter Tryd.func46, Tryd.ntmps46
  go_upto_region 1 with fail
  rw [HW1.out, HS0.out]
  go_wp2_with fail
  refine (hidx1_any A c ps m (S0 + 1) w1 H2.out (by have := HP.out; omega) (blk_cell HB2.out 0 _ rfl) (blk_lt HB2.out)).mono ?_
  rintro e w2 ⟨i, rfl, hi, hx2⟩
  have HX2 := Lib.hid hx2
  have hi' : i + 1 = Md.hasP ps m 1 ∧ -1 ≤ i ∧ i ≤ 10000 := by
    rcases hi with ⟨rfl, h⟩ | ⟨k, rfl, ⟨p, hk, hp⟩, h⟩
    · exact ⟨by rw [Md.hasP_no h]; rfl, by omega, by omega⟩
    · refine ⟨by rw [Md.hasP_at hk hp h]; omega, by omega, ?_⟩
      have := (List.getElem?_eq_some_iff.1 hk).1
      have := HP.out
      omega
  have HI := Lib.hid hi'.1
  have i1 := hi'.2.1
  have i2 := hi'.2.2
  have c1 := blk_cell (hx2.blk HB1.out) 2 _ rfl
  clear hi hx2 hi'
  go_wp2_with fail
  refine (hidx2_any B d gs m (S0 + 1) w2 (H3.out.ext HX2.out) (by have := HG.out; omega) (blk_cell (HX2.out.blk HB2.out) 0 _ rfl) (blk_lt (HX2.out.blk HB2.out))).mono ?_
  rintro e w3 ⟨j, rfl, hj, hx3⟩
  have X3 := Lib.hid (HX1.out.trans (HX2.out.trans hx3))
  have HX3 := Lib.hid hx3
  clear hx3
  rcases hj with ⟨rfl, h⟩ | ⟨k, rfl, ⟨g, hk, hg⟩, h⟩
  · have HGN := Lib.hid (Md.hasG_no h)
    clear h
    go_wp2
    go_ret2
    exact ⟨by rw [HGN.out, HI.out] <;> rfl, X3.out⟩
  · have HGN := Lib.hid (Md.hasG_at hk hg h)
    obtain ⟨b, o, hB, hb, hc⟩ := (H3.out.ext (HX2.out.trans HX3.out)).get hk
    have k0 := hc 0 _ rfl
    rw [Nat.add_zero] at k0
    have c2 : w3.cell? ⟨S0, 2, none⟩ = some (.slice (some ⟨b, o, none⟩) gs.length d) := by rw [← hB]; exact blk_cell (HX3.out.blk (HX2.out.blk HB1.out)) 2 _ rfl
    have k1 : (k : Int) < (gs.length : Int) := by have := (List.getElem?_eq_some_iff.1 hk).1; omega
    have k2 : (k : Int) < 100000 := by have := HG.out; omega
    have k3 : ¬ (k : Int) < 0 := by omega
    have HBE := Lib.hid hB
    have HBL := Lib.hid hb
    have HK0 := Lib.hid k0
    clear h hk hg hB hb hc c1 c2 k0
    go_simp
    go_upto_region 5 with fail
    refine region_rgx ([]) (w3) (by kernel_rfl) (by kernel_rfl) ?_ ?_ ?_
    · exact List.forall_mem_nil _
    · first | assumption | exact Ext.refl _
    refine rg_pure (v := ?_) rfl (by kernel_rfl) (by kernel_rfl) (fun w hS hN => ?_) ?_
    rotate_left 1
    · clear hN
      go_simp
      refine givesP_mk ?_
      with_reducible rfl
    refine rg_pure (v := ?_) rfl (by kernel_rfl) (by kernel_rfl) (fun w hS hN => ?_) ?_
    rotate_left 1
    · clear hN
      go_simp
      refine givesP_mk ?_
      with_reducible rfl
    refine rg_pure (v := ?_) rfl (by kernel_rfl) (by kernel_rfl) (fun w hS hN => ?_) ?_
    rotate_left 1
    · have q1 := blk_cell (hS.blk (HX3.out.blk (HX2.out.blk HB1.out))) 2 _ rfl
      rw [HBE.out] at q1
      clear hN
      go_simp
      refine givesP_mk ?_
      with_reducible rfl
    refine rg_pure (v := ?_) rfl (by kernel_rfl) (by kernel_rfl) (fun w hS hN => ?_) ?_
    rotate_left 1
    · clear hN
      go_simp
      refine givesP_mk ?_
      with_reducible rfl
    refine rg_pure (v := ?_) rfl (by kernel_rfl) (by kernel_rfl) (fun w hS hN => ?_) ?_
    rotate_left 1
    · clear hN
      go_simp
      refine givesP_mk ?_
      with_reducible rfl
    refine rg_pure (v := ?_) rfl (by kernel_rfl) (by kernel_rfl) (fun w hS hN => ?_) ?_
    rotate_left 1
    · clear hN
      go_simp
      refine givesP_mk ?_
      with_reducible rfl
    refine rg_pure (v := ?_) rfl (by kernel_rfl) (by kernel_rfl) (fun w hS hN => ?_) ?_
    rotate_left 1
    · have q1 : w.cell? ⟨b, o + k * 4, none⟩ = some (.int .i64 g.1) := (by rw [Below.cell (p := ⟨b, o + k * 4, none⟩) hS HBL.out]; exact HK0.out)
      clear hN
      go_simp
      refine givesP_mk ?_
      with_reducible rfl
    refine rg_pure (v := ?_) rfl (by kernel_rfl) (by kernel_rfl) (fun w hS hN => ?_) ?_
    rotate_left 1
    · clear hN
      go_simp
      refine givesP_mk ?_
      with_reducible rfl
    refine rg_pure (v := ?_) rfl (by kernel_rfl) (by kernel_rfl) (fun w hS hN => ?_) ?_
    rotate_left 1
    · clear hN
      go_simp
      refine givesP_mk ?_
      with_reducible rfl
    refine rg_done rfl (Nat.le_of_ble_eq_true (by kernel_rfl)) ?_
    intro w8 hS hT
    have X8 := Lib.hid (X3.out.trans hS)
    clear hS hT
    go_simp
    go_wp2
    go_ret2
    exact ⟨by rw [HGN.out, HI.out] <;> rfl, X8.out⟩
theorem Md.fnd_at {g : Int} : ∀ {l : List Gs4} {k : Nat} {y : Gs4}, l[k]? = some y → y.1 = g → (∀ (j : Nat) z, l[j]? = some z → j < k → z.1 ≠ g) → Md.fnd l g = some k
  | [], _, _, h, _, _ => by simp at h
  | q :: l, 0, y, h, h1, h2 => by
    obtain rfl : q = y := by simpa using h
    unfold Md.fnd
    rw [if_pos h1]
  | q :: l, k + 1, y, h, h1, h2 => by
    unfold Md.fnd
    rw [if_neg (h2 0 q rfl (by omega)), Md.fnd_at (k := k) (y := y) (by simpa using h) h1 fun j r hr hj => h2 (j + 1) r (by simpa using hr) (by omega)]
    rfl
theorem setCells_mid {g : Nat} {T : TypeId} : ∀ (ds : List Value) (w : World) (cs : Array Value) (i : Nat), w.heap[g]? = some (.cells cs T (0, 0)) → i + ds.length ≤ cs.size → ∃ cs', (w.setCells g i ds).heap[g]? = some (.cells cs' T (0, 0)) ∧ cs'.size = cs.size ∧ ∀ j, cs'[j]? = if i ≤ j ∧ j < i + ds.length then ds[j - i]? else cs[j]?
  | [], w, cs, i, h, _ => ⟨cs, h, rfl, fun j => by rw [if_neg (by simp <;> omega)]⟩
  | d :: ds, w, cs, i, h, hl => by
    simp only [List.length_cons] at hl
    obtain ⟨cs', h1, h2, h3⟩ := setCells_mid ds (w.setCell ⟨g, i, none⟩ d) (cs.setIfInBounds i d) (i + 1) (blk_set h i d) (by simp; omega)
    refine ⟨cs', h1, by simpa using h2, fun j => ?_⟩
    rw [h3 j, List.length_cons]
    by_cases hj : j = i
    · subst hj
      rw [if_neg (by omega), if_pos (by omega), Nat.sub_self, List.getElem?_cons_zero, Array.getElem?_setIfInBounds_self_of_lt (by omega)]
    · by_cases hin : i + 1 ≤ j ∧ j < i + 1 + ds.length
      · rw [if_pos hin, if_pos (by omega), show j - i = (j - (i + 1)) + 1 by omega, List.getElem?_cons_succ]
      · rw [if_neg hin, if_neg (by omega), Array.getElem?_setIfInBounds_ne (Ne.symm hj)]
theorem OwnRows.setCells {α : Type} {e : TypeId} {m : Nat} {f : α → List Value} {w : World} {B : Nat} {v : Value} {xs : List α} (hf : ∀ x, (f x).length = m) (h : OwnRows e m f w B v xs) {i : Nat} {x x' : α} (hi : xs[i]? = some x) {j : Nat} {ds : List Value} (hj : j + ds.length ≤ m)
    (hx : ∀ t, t < m → (f x')[t]? = if j ≤ t ∧ t < j + ds.length then ds[t - j]? else (f x)[t]?) :
    ∃ g c, v = .slice (some ⟨g, 0, none⟩) xs.length c ∧ v.ownBlock = some g ∧ B ≤ g ∧ g < w.heap.size ∧ w.there g (i * m + j) ds.length ∧ OwnRows e m f (w.setCells g (i * m + j) ds) B v (xs.set i x') ∧ Upd g w (w.setCells g (i * m + j) ds) := by
  have hil := (List.getElem?_eq_some_iff.1 hi).1
  rcases h.2 with ⟨_, h0⟩ | ⟨g, cap, cur, rfl, hb, hg, hnc, hcm, hcs, htake⟩
  · omega
  · have hlt : i * m + j + ds.length ≤ cur.size := by
      have h1 : (i + 1) * m ≤ cap * m := Nat.mul_le_mul_right _ (by omega)
      rw [Nat.add_mul] at h1
      rw [hcs]
      omega
    obtain ⟨cs', h1, h2, h3⟩ := setCells_mid ds w cur (i * m + j) hg hlt
    refine ⟨g, cap, rfl, rfl, hb, blk_lt hg, fun k hk => ⟨?_, frozen_of_row _ _ _ _ _ hg⟩, ⟨?_, .inr ⟨g, cap, cs', ?_, hb, h1, ?_, hcm, h2.trans hcs, ?_⟩⟩, setCells_upd _ _ _ _⟩
    · rw [blk_cell hg _ _ (Array.getElem?_eq_getElem (by omega))]; rfl
    · rw [flatMap_len hf]
    · rw [List.length_set]
    · rw [List.length_set]; exact hnc
    · rw [List.length_set]
      apply List.ext_getElem?
      intro t
      by_cases ht : t < xs.length * m
      · have hm : 0 < m := Nat.pos_of_ne_zero fun e => by subst e; omega
        have hq : t / m < xs.length := Nat.div_lt_of_lt_mul (by rw [Nat.mul_comm]; exact ht)
        have hr : t % m < m := Nat.mod_lt _ hm
        have hjj : t / m * m + t % m = t := by rw [Nat.mul_comm]; exact Nat.div_add_mod t m
        have key : ∀ (y : α), (xs.set i x')[t / m]? = some y → ((xs.set i x').flatMap f)[t]? = (f y)[t % m]? := fun y hy => by
          have := flatMap_get hf (xs.set i x') (t / m) y hy (t % m) _ (List.getElem?_eq_getElem (by rw [hf]; exact hr))
          rw [hjj] at this
          rw [this, List.getElem?_eq_getElem (by rw [hf]; exact hr)]
        have key0 : ∀ (y : α), xs[t / m]? = some y → cur.toList[t]? = (f y)[t % m]? := fun y hy => by
          have := flatMap_get hf xs (t / m) y hy (t % m) _ (List.getElem?_eq_getElem (by rw [hf]; exact hr))
          rw [hjj, ← htake, List.getElem?_take, if_pos ht] at this
          rw [this, List.getElem?_eq_getElem (by rw [hf]; exact hr)]
        rw [List.getElem?_take, if_pos ht, Array.getElem?_toList, h3 t]
        by_cases hqi : t / m = i
        · subst hqi
          rw [key x' (List.getElem?_set_self hq), hx _ hr, ← key0 x hi]
          by_cases hin : j ≤ t % m ∧ t % m < j + ds.length
          · rw [if_pos hin, if_pos (by omega), show t - (t / m * m + j) = t % m - j by omega]
          · rw [if_neg hin, if_neg (by omega), Array.getElem?_toList]
        · have hout : ¬ (i * m + j ≤ t ∧ t < i * m + j + ds.length) := by
            rcases Nat.lt_or_gt_of_ne hqi with hl | hl
            · have h1 : (t / m + 1) * m ≤ i * m := Nat.mul_le_mul_right _ hl
              rw [Nat.add_mul] at h1
              omega
            · have h1 : (i + 1) * m ≤ t / m * m := Nat.mul_le_mul_right _ hl
              rw [Nat.add_mul] at h1
              omega
          rw [if_neg hout, key _ ((List.getElem?_set_ne (Ne.symm hqi)).trans (List.getElem?_eq_getElem hq)), ← key0 _ (List.getElem?_eq_getElem hq), Array.getElem?_toList]
      · rw [List.getElem?_take, if_neg ht, List.getElem?_eq_none (by rw [flatMap_len hf, List.length_set]; omega)]
theorem OwnRows.setCell {α : Type} {e : TypeId} {m : Nat} {f : α → List Value} {w : World} {B : Nat} {v : Value} {xs : List α} (hf : ∀ x, (f x).length = m) (h : OwnRows e m f w B v xs) {i : Nat} {x x' : α} (hi : xs[i]? = some x) {j : Nat} {d : Value} (hj : j < m)
    (hx : f x' = (f x).set j d) :
    ∃ g c, v = .slice (some ⟨g, 0, none⟩) xs.length c ∧ v.ownBlock = some g ∧ B ≤ g ∧ g < w.heap.size ∧ w.there g (i * m + j) 1 ∧ OwnRows e m f (w.setCell ⟨g, i * m + j, none⟩ d) B v (xs.set i x') ∧ Upd g w (w.setCell ⟨g, i * m + j, none⟩ d) :=
  OwnRows.setCells hf h hi (ds := [d]) (by simp only [List.length_singleton]; omega) (fun t ht => by
    rw [hx]
    by_cases htj : t = j
    · subst htj
      rw [List.getElem?_set_self (by rw [hf]; exact ht), if_pos (by simp), Nat.sub_self]
      rfl
    · rw [List.getElem?_set_ne (Ne.symm htj), if_neg (by simp; omega)])
theorem Tryd.infoPS : (Tryd.prog.info? 61).map (fun i => (i.zero, i.size, i.bytes)) = some (some (.agg #[.int .i64 0, .int .i64 0]), 2, 16) := by kernel_rfl
theorem Tryd.infoGS : (Tryd.prog.info? 49).map (fun i => (i.zero, i.size, i.bytes)) = some (some (.agg #[.int .i64 0, .int .i64 0, .int .i64 0, .int .i64 0]), 4, 32) := by kernel_rfl
theorem snPCells_len (x : Int × Int) : (snPCells x).length = 2 := rfl
theorem snPCells_one (x : Int × Int) : ∀ u ∈ snPCells x, u.oneCell' = true := by intro u hu; simp [snPCells] at hu; rcases hu with rfl | rfl <;> rfl
theorem snGCells_len (x : Gs4) : (snGCells x).length = 4 := rfl
theorem snGCells_one (x : Gs4) : ∀ u ∈ snGCells x, u.oneCell' = true := by intro u hu; simp [snGCells] at hu; rcases hu with rfl | rfl | rfl | rfl <;> rfl
set_option maxRecDepth 100000 in
set_option maxHeartbeats 1000000 in
theorem cloneGS_any (v : Value) (xs : List Gs4) (w : World) (hR : RowsAt 4 snGCells w v xs) (hn : xs.length ≤ 1000000) : Calls Tryd.prog 48 #[v] w fun e w' => ∃ u, e = .returned u ∧ OwnRows 49 4 snGCells w' w.heap.size u xs ∧ Ext w w' := by
  obtain ⟨i0, I0, I1, I2, I3⟩ := info_parts Tryd.infoGS
  obtain ⟨A, c, rfl, hc⟩ := hR.form
  cases A with
  | none =>
    have h0 : xs = [] := by
      obtain ⟨A', c', hv, _, hA⟩ := hR
      simp only [Value.slice.injEq] at hv
      cases xs with
      | nil => rfl
      | cons x xs => obtain ⟨b, o, hb, _⟩ := hA (by simp); rw [hb] at hv; simp at hv
    subst h0
    have hnil := fun (wx : World) (a : Option Addr) (n c : Nat) => Lib.run_eql_slice_nil (P := Tryd.prog) wx 23 49 a n c 0 0 Tryd.underlying23
    clear hR I0 I1 I2 I3
    go_enter Tryd.func48, Tryd.ntmps48
    go_wp2
    go_ret
    exact ⟨_, rfl, OwnRows.nil w _, Ext.refl _⟩
  | some a =>
    have hmade : OwnRows 49 4 snGCells (w.alloc (.cells #[] 49)) w.heap.size (.slice (some ⟨w.heap.size, 0, none⟩) 0 0) [] := World.ownsRow_made (base := w.heap.size) (e := 49) (size := 4) w #[] 0 (Nat.le_refl _) (by decide) rfl
    obtain ⟨u, w1, hr, ho, hg⟩ := OwnRows.append (P := Tryd.prog) (e := 49) (m := 4) (f := snGCells) (xs := []) 23 Tryd.underlying23 I0 I1 I2 I3 rfl (by decide) snGCells_len snGCells_one hmade (hR.ext ((Ext.refl w).alloc _)) (by simp [maxLen]; omega) (by simp; omega) (by simp)
    have HR := Lib.hid hr
    have HO := Lib.hid ho
    have HX : Hid (Ext w w1) := Lib.hid (OwnRows.grown (W := w) hmade ((Ext.refl w).alloc _) hg)
    have hnil := fun (wx : World) (a : Option Addr) (n c : Nat) => Lib.run_eql_slice_nil (P := Tryd.prog) wx 23 49 a n c 0 0 Tryd.underlying23
    clear hr ho hg hmade hR I0 I1 I2 I3
    go_enter Tryd.func48, Tryd.ntmps48
    go_wp2_with (at_builtin; refine wpList_append_run rfl _ _ 23 rfl _ _ rfl rfl HR.out ?_)
    go_ret
    exact ⟨_, rfl, HO.out, HX.out⟩
set_option maxRecDepth 100000 in
set_option maxHeartbeats 1000000 in
theorem clonePS_any (v : Value) (xs : List (Int × Int)) (w : World) (hR : RowsAt 2 snPCells w v xs) (hn : xs.length ≤ 1000000) : Calls Tryd.prog 47 #[v] w fun e w' => ∃ u, e = .returned u ∧ OwnRows 61 2 snPCells w' w.heap.size u xs ∧ Ext w w' := by
  obtain ⟨i0, I0, I1, I2, I3⟩ := info_parts Tryd.infoPS
  obtain ⟨A, c, rfl, hc⟩ := hR.form
  cases A with
  | none =>
    have h0 : xs = [] := by
      obtain ⟨A', c', hv, _, hA⟩ := hR
      simp only [Value.slice.injEq] at hv
      cases xs with
      | nil => rfl
      | cons x xs => obtain ⟨b, o, hb, _⟩ := hA (by simp); rw [hb] at hv; simp at hv
    subst h0
    have hnil := fun (wx : World) (a : Option Addr) (n c : Nat) => Lib.run_eql_slice_nil (P := Tryd.prog) wx 22 61 a n c 0 0 Tryd.underlying22
    clear hR I0 I1 I2 I3
    go_enter Tryd.func47, Tryd.ntmps47
    go_wp2
    go_ret
    exact ⟨_, rfl, OwnRows.nil w _, Ext.refl _⟩
  | some a =>
    have hmade : OwnRows 61 2 snPCells (w.alloc (.cells #[] 61)) w.heap.size (.slice (some ⟨w.heap.size, 0, none⟩) 0 0) [] := World.ownsRow_made (base := w.heap.size) (e := 61) (size := 2) w #[] 0 (Nat.le_refl _) (by decide) rfl
    obtain ⟨u, w1, hr, ho, hg⟩ := OwnRows.append (P := Tryd.prog) (e := 61) (m := 2) (f := snPCells) (xs := []) 22 Tryd.underlying22 I0 I1 I2 I3 rfl (by decide) snPCells_len snPCells_one hmade (hR.ext ((Ext.refl w).alloc _)) (by simp [maxLen]; omega) (by simp; omega) (by simp)
    have HR := Lib.hid hr
    have HO := Lib.hid ho
    have HX : Hid (Ext w w1) := Lib.hid (OwnRows.grown (W := w) hmade ((Ext.refl w).alloc _) hg)
    have hnil := fun (wx : World) (a : Option Addr) (n c : Nat) => Lib.run_eql_slice_nil (P := Tryd.prog) wx 22 61 a n c 0 0 Tryd.underlying22
    clear hr ho hg hmade hR I0 I1 I2 I3
    go_enter Tryd.func47, Tryd.ntmps47
    go_wp2_with (at_builtin; refine wpList_append_run rfl _ _ 22 rfl _ _ rfl rfl HR.out ?_)
    go_ret
    exact ⟨_, rfl, HO.out, HX.out⟩
def SnRet (w : World) (y : Sn) (e : Ending) (w' : World) : Prop := ∃ u, e = .returned u ∧ SnAt w' u y ∧ Ext w w'
theorem wpList_store_rowN {P : Program} {ops : Array Oper} {rest : List Oper} {op : Oper} {a : Act} {w : World} {Q : Exit → Act → World → Prop} (hgd : op.guard = none) (ty : TypeId) (x y : Operand) (ho : op.op = .store ty x y)
    (b o : Nat) (ds : List Value) (v : Value) (hx : a.eval x = .pointer (some ⟨b, o, none⟩)) (hy : a.eval y = v) (hv : v = .agg ds.toArray) (ht : w.there b o ds.length) (hi : (P.info? ty).map (·.size) = some ds.length) (h1 : ∀ u ∈ ds, u.oneCell' = true)
    {w' : World} (hw : w.setCells b o ds = w') (h : wpList P ops Q rest (a.put op.dst undef) w') : wpList P ops Q (op :: rest) a w := by
  subst hv hw
  exact wpList_store_mid hgd ty x y ho b o ds.toArray hx hy (by simpa using ht) (by simpa using hi) (all_oneCell_toArray h1) (by simpa using h)
theorem sn3_one (t : Int) (u v : Value) (hu : u.oneCell' = true) (hv : v.oneCell' = true) : ∀ x ∈ [Value.int .i64 t, u, v], x.oneCell' = true := by
  intro x hx
  simp only [List.mem_cons, List.not_mem_nil, or_false] at hx
  rcases hx with rfl | rfl | rfl
  · rfl
  · exact hu
  · exact hv
namespace Md
end Md
theorem rows_one {α : Type} {m : Nat} {f : α → List Value} (w : World) (T : TypeId) (y : α) : RowsAt m f (w.alloc (.cells (f y).toArray T)) (.slice (some ⟨w.heap.size, 0, none⟩) 1 1) [y] := by
  refine ⟨_, 1, rfl, by simp, fun _ => ⟨w.heap.size, 0, rfl, by simp, fun j x hj i u hu => ?_⟩⟩
  match j, hj with
  | 0, hj =>
    simp only [List.getElem?_cons_zero, Option.some.injEq] at hj
    subst hj
    rw [show 0 + 0 * m + i = i by omega]
    refine blk_cell (blk_new w _) _ _ ?_
    rw [List.getElem?_toArray]
    exact hu
def lgV (l : Lg) (wy st : Value) : Value := .agg #[.int .i64 l.time, .int .i64 l.m, .int .i64 l.kind, .int .i64 l.g, .int .i64 l.p, .int .i64 l.seq, wy, st]
namespace Md
end Md
section
variable {P : Program} {ops : Array Oper} {Q : Exit → Act → World → Prop} {md : Region.Mode} {z : Nat} {C : World → Prop}
def EntersM' (P : Program) (R : Ending → World → Prop) : Result Next → Prop
  | .ok (.enter f args) w' => Calls P f args w' R
  | _ => False
structure EntersM (P : Program) (R : Ending → World → Prop) (r : Result Next) : Prop where
  out : EntersM' P R r
theorem entersM_call {R : Ending → World → Prop} {fid : FuncId} {args : Array Value} {w : World} (h : Calls P fid args w R) : EntersM P R (.ok (.enter fid args) w) := ⟨h⟩
theorem region_gq (z : Nat) (C S : World → Prop) {id : Nat} {a : Act} {w : World} (hm : P.follows .mixedOrders = true) (hS : S w.drew) (hQ : ∀ c a d v w, Q (.panic c) (a.put d v) w → Q (.panic c) a w)
    (h : ∀ Q', Hid (Q' = Q) → (∀ c a d v w, Q' (.panic c) (a.put d v) w → Q' (.panic c) a w) → wpG P .any ops Q' z C ops.size S (Array.replicate ops.size false) a) : (Code.region id ops true).wp P Q a w :=
  region_g z C S hm hS (h Q (Lib.hid rfl) hQ)
theorem g_last {S : World → Prop} {k f : Nat} {o : Oper} {listed : Array Bool} {a : Act} (hr : Region.ready md ops listed = [k]) (hr2 : Region.ready md ops (listed.setIfInBounds k true) = []) (hz : (listed.setIfInBounds k true).getD z false = true)
    (hk : ops[k]? = some o) (hw : Region.wanted o (yielded ops a.tmps) = true)
    (hc : ∀ w, S w → ∀ R : Ending → World → Prop, (∀ v w', Q .normal (a.put o.dst v) w' → R (.returned v) w') → (∀ c w', Q (.panic c) a w' → R (.panicked c) w') → EntersM P R ((execOp a.eval o).run P w)) : wpG P md ops Q z C (f + 1) S listed a :=
  g_turn (fun v w' => Q .normal (a.put o.dst v) w') hr (fun v w _ h0 => by rw [hz] at h0; cases h0) fun w hS => by
    unfold wpOp
    simp only [hk, hw, if_true]
    left
    have h := (hc w hS (fun e w' => match e with | .returned v => Q .normal (a.put o.dst v) w' | .panicked c => Q (.panic c) a w' | .outgrown => False) (fun v w' h => h) (fun c w' h => h)).out
    unfold Oper.wp
    generalize (execOp a.eval o).run P w = r at *
    cases r with
    | halt x w' => exact h.elim
    | ok n w' =>
      cases n with
      | enter f args =>
        refine Calls.mono h fun e w'' he => ?_
        cases e with
        | returned v => exact ⟨v, he, g_done hr2 (fun _ h => h) _⟩
        | panicked c => exact he
        | outgrown => exact he.elim
      | _ => exact h.elim
end
section
variable {P : Program} {ops : Array Oper} {Q : Exit → Act → World → Prop} {md : Region.Mode} {z : Nat} {C : World → Prop}
theorem g_mid (T : Value → World → Prop) {S : World → Prop} {k f : Nat} {o : Oper} {listed : Array Bool} {a : Act} (hr : Region.ready md ops listed = [k]) (hT : ∀ v w, T v w → (listed.setIfInBounds k true).getD z false = false → C w)
    (hk : ops[k]? = some o) (hw : Region.wanted o (yielded ops a.tmps) = true) (hc : ∀ w, S w → ∀ R : Value → World → Prop, (∀ v w', T v w' → R v w') → GivesM P R ((execOp a.eval o).run P w))
    (h : ∀ v, (∃ w, T v w) → wpG P md ops Q z C f (T v) (listed.setIfInBounds k true) (a.put o.dst v)) : wpG P md ops Q z C (f + 1) S listed a :=
  g_turn T hr hT fun w hS => by
    unfold wpOp
    simp only [hk, hw, if_true]
    left
    have h2 := (hc w hS T fun _ _ h => h).out
    unfold Oper.wp
    generalize (execOp a.eval o).run P w = r at *
    cases r with
    | halt x w' => exact h2.elim
    | ok n w' =>
      cases n with
      | value u => exact ⟨u, h2, h u ⟨_, h2⟩⟩
      | skip => exact ⟨undef, h2, h undef ⟨_, h2⟩⟩
      | enter f args =>
        refine Calls.mono h2 fun e w'' he => ?_
        obtain ⟨v, rfl, h3⟩ := he
        exact ⟨v, h3, h v ⟨_, h3⟩⟩
      | _ => exact h2.elim
theorem g_end {S : World → Prop} {k f : Nat} {o : Oper} {listed : Array Bool} {a : Act} (hr : Region.ready md ops listed = [k]) (hr2 : Region.ready md ops (listed.setIfInBounds k true) = []) (hz : (listed.setIfInBounds k true).getD z false = true)
    (hk : ops[k]? = some o) (hw : Region.wanted o (yielded ops a.tmps) = true) (hc : ∀ w, S w → ∀ R : Value → World → Prop, (∀ v w', Q .normal (a.put o.dst v) w' → R v w') → GivesM P R ((execOp a.eval o).run P w)) : wpG P md ops Q z C (f + 1) S listed a :=
  g_mid (fun v w' => Q .normal (a.put o.dst v) w') hr (fun v w _ h0 => by rw [hz] at h0; cases h0) hk hw hc fun v _ => g_done hr2 (fun _ h => h) _
end
theorem rows_off {α : Type} {m : Nat} {f : α → List Value} {w w' : World} {v : Value} {xs : List α} {R : Nat} {t : Int} {s1 s2 : Value} {T : TypeId} {fr : Nat × Nat} (h : RowsAt m f w v xs) (hf : ∀ x, ∃ (a b : Int) (r : List Value), f x = .int .i64 a :: .int .i64 b :: r)
    (hb : w.heap[R]? = some (.cells #[.int .i64 t, s1, s2] T fr)) (h1 : ∀ a, s1 ≠ .int .i64 a) (h2 : ∀ a, s2 ≠ .int .i64 a) (hu : Upd R w w') : RowsAt m f w' v xs := by
  obtain ⟨A, c, hv, hc, hA⟩ := h
  refine ⟨A, c, hv, hc, fun h0 => ?_⟩
  obtain ⟨b, o, hAe, hlt, hcell⟩ := hA h0
  have hne : b ≠ R := fun e => by
    subst e
    obtain ⟨x, hx⟩ : ∃ x, xs[0]? = some x := ⟨_, List.getElem?_eq_getElem h0⟩
    obtain ⟨p, q, r, hfx⟩ := hf x
    have k0 := hcell 0 x hx 0 (.int .i64 p) (by rw [hfx]; rfl)
    have k1 := hcell 0 x hx 1 (.int .i64 q) (by rw [hfx]; rfl)
    rw [show o + 0 * m + 0 = o by omega] at k0
    rw [show o + 0 * m + 1 = o + 1 by omega] at k1
    have c1 := blk_cell hb 1 s1 rfl
    have c2 := blk_cell hb 2 s2 rfl
    rcases Nat.lt_or_ge o 3 with ho | ho
    · have : o = 0 ∨ o = 1 ∨ o = 2 := by omega
      rcases this with rfl | rfl | rfl
      · rw [c1] at k1; exact h1 q (Option.some.inj k1)
      · rw [c1] at k0; exact h1 p (Option.some.inj k0)
      · rw [c2] at k0; exact h2 p (Option.some.inj k0)
    · rw [cell_of_row w b o _ _ _ hb, Array.getElem?_eq_none (by simpa using ho)] at k0
      cases k0
  refine ⟨b, o, hAe, Nat.lt_of_lt_of_le hlt hu.size, fun j x hx i u hui => ?_⟩
  rw [World.cell?_of_block (hu.block b hlt (fun e => by injection e with e; exact hne e))]
  exact hcell j x hx i u hui
theorem snP_two (x : Int × Int) : ∃ (a b : Int) (r : List Value), snPCells x = .int .i64 a :: .int .i64 b :: r := ⟨_, _, _, rfl⟩
theorem snG_two (x : Gs4) : ∃ (a b : Int) (r : List Value), snGCells x = .int .i64 a :: .int .i64 b :: r := ⟨_, _, _, rfl⟩
theorem sn_lay {w w2 : World} {R : Nat} {t0 time : Int} {A B A0 B0 : Option Addr} {c d n0 c0 n1 c1 : Nat} {y : Sn} (hx : Ext w w2) (hR : w.heap.size ≤ R) (hb : w2.heap[R]? = some (.cells #[.int .i64 t0, .slice A0 n0 c0, .slice B0 n1 c1] 25 (0, 0))) (hs : SnAt w2 (.agg #[.int .i64 time, .slice A y.ps.length c, .slice B y.gs.length d]) y) :
    w2.there R 0 [Value.int .i64 time, .slice A y.ps.length c, .slice B y.gs.length d].length ∧ ∃ w6, w2.setCells R 0 [.int .i64 time, .slice A y.ps.length c, .slice B y.gs.length d] = w6 ∧ w6.heap[R]? = some (.cells #[.int .i64 time, .slice A y.ps.length c, .slice B y.gs.length d] 25 (0, 0)) ∧ SnRet w y (.returned (.agg #[.int .i64 time, .slice A y.ps.length c, .slice B y.gs.length d])) w6 := by
  have hu := setCells_upd R [Value.int .i64 time, .slice A y.ps.length c, .slice B y.gs.length d] w2 0
  refine ⟨there_row hb (by simp), _, rfl, setCells_at [.int .i64 t0, .slice A0 n0 c0, .slice B0 n1 c1] _ rfl hb, _, rfl, ?_, Ext.upd hx hu hR⟩
  obtain ⟨A', c', B', d', hv, h2, h3⟩ := hs
  simp only [Value.agg.injEq] at hv
  have e2 : Value.slice A y.ps.length c = .slice A' y.ps.length c' := by have := congrArg (fun a : Array Value => a[1]?) hv; simpa using this
  have e3 : Value.slice B y.gs.length d = .slice B' y.gs.length d' := by have := congrArg (fun a : Array Value => a[2]?) hv; simpa using this
  have e1 : Value.int .i64 time = .int .i64 y.time := by have := congrArg (fun a : Array Value => a[0]?) hv; simpa using this
  rw [e1, e2, e3] at hu ⊢
  exact ⟨A', c', B', d', rfl, rows_off h2 snP_two hb (by simp) (by simp) hu, rows_off h3 snG_two hb (by simp) (by simp) hu⟩
namespace Md
theorem hasP_range {m : Int} : ∀ {l : List (Int × Int)} {i : Int}, 0 < i → hasP l m i ≠ 0 → ∃ k : Nat, k < l.length ∧ hasP l m i = i + (k : Int)
  | [], _, _, h => absurd rfl h
  | p :: l, i, hi, h => by
    unfold hasP at h ⊢
    by_cases hp : p.1 = m
    · rw [if_pos hp]; exact ⟨0, by simp, by simp⟩
    · rw [if_neg hp] at h ⊢
      obtain ⟨k, hk, e⟩ := hasP_range (by omega) h
      exact ⟨k + 1, by simpa using hk, by rw [e]; omega⟩
theorem hasG_mem {m : Int} : ∀ {l : List Gs4}, hasG l m ≠ 0 → ∃ y ∈ l, y.1 = hasG l m ∧ y.2.2.1 = m
  | [], h => absurd rfl h
  | y :: l, h => by
    unfold hasG at h ⊢
    by_cases hy : y.2.2.1 = m
    · rw [if_pos hy]; exact ⟨y, by simp, rfl, hy⟩
    · rw [if_neg hy] at h ⊢
      obtain ⟨z, hz, e⟩ := hasG_mem h
      exact ⟨z, List.mem_cons_of_mem _ hz, e⟩
theorem fnd_mem {l : List Gs4} {y : Gs4} {g : Int} (h : y ∈ l) (hy : y.1 = g) : ∃ k, fnd l g = some k := by
  cases hf : fnd l g with
  | some k => exact ⟨k, rfl⟩
  | none => exact absurd hy (fnd_none.1 hf y h)
theorem stat_some {l : List Gs4} {g : Int} (h : (stat l g).1 ≠ 0) : ∃ k, fnd l g = some k := by
  cases hf : fnd l g with
  | some k => exact ⟨k, rfl⟩
  | none => unfold stat at h; rw [hf] at h; exact absurd rfl h
theorem free_range {l : List (Int × Int)} {p s : Int} (h : free l p s = true) : ∃ k : Nat, p = (k : Int) + 1 ∧ k < l.length := by
  unfold free at h
  simp only [Bool.and_eq_true, decide_eq_true_eq] at h
  exact ⟨(p - 1).toNat, by omega, by omega⟩
theorem setP_at {l : List (Int × Int)} {k : Nat} {m a b : Int} (h : l[k]? = some (a, b)) : setP l ((k : Int) + 1) m = l.set k (m, b + 1) := by
  unfold setP
  rw [show ((k : Int) + 1 - 1).toNat = k by omega, List.getD, h]
  rfl
theorem setG_at {l : List Gs4} {g st m : Int} {k : Nat} {y : Gs4} (hf : fnd l g = some k) (hy : l[k]? = some y) : setG l g st m = l.set k (g, st, m, y.2.2.2 + 1) := by
  unfold setG
  rw [hf]
  simp only [List.getD, hy, Option.getD_some]
end Md
namespace Md
def cmpI (a b : Int) : Int := if a < b then -1 else if b < a then 1 else 0
theorem gpos_some {l : List Gs4} (hr : rises l) {g : Int} {k : Nat} (h1 : ∀ (j : Nat) z, l[j]? = some z → j < k → z.1 < g) (h2 : ∀ (j : Nat) z, l[j]? = some z → k ≤ j → g ≤ z.1) (hk : k ≤ l.length) :
    gpos l g = k ∧ ((fnd l g).isSome = true ↔ ∃ y, l[k]? = some y ∧ y.1 = g) := by
  have e := gpos_of (g := g) hk (fun j hj z hz => h1 j z hz hj) (fun z hz => h2 k z hz (Nat.le_refl _))
  refine ⟨e, ?_⟩
  constructor
  · intro h
    obtain ⟨j, hj⟩ := Option.isSome_iff_exists.1 h
    have := gpos_fnd hr hj
    obtain ⟨y, hy, hyg, _⟩ := fnd_some hj
    exact ⟨y, by rw [← e, this]; exact hy, hyg⟩
  · rintro ⟨y, hy, hyg⟩
    rw [fnd_of hr hy hyg]; rfl
end Md
theorem misnan_any (a : Int) (w : World) : Calls Tryd.prog 99 #[.int .i64 a] w fun e w' => e = .returned (.bool false) ∧ w' = w := by
  have h : (a != a) = false := by simp
  go_enter Tryd.func99, Tryd.ntmps99
  go_wp2
  go_ret
  exact ⟨rfl, rfl⟩
theorem mcmp_any (a b : Int) (w : World) : Calls Tryd.prog 91 #[.int .i64 a, .int .i64 b] w fun e w' => e = .returned (.int .i64 (Md.cmpI a b)) ∧ w' = w := by
  go_enter Tryd.func91, Tryd.ntmps91
  go_wp2_with fail
  refine (misnan_any a w).mono ?_
  rintro e w1 ⟨rfl, rfl⟩
  go_wp2_with fail
  refine (misnan_any b _).mono ?_
  rintro e w2 ⟨rfl, rfl⟩
  by_cases h : a < b
  · have HE : Hid (Md.cmpI a b = -1) := Lib.hid (by unfold Md.cmpI; rw [if_pos h])
    go_wp2
    go_ret
    exact ⟨by rw [HE.out] <;> rfl, rfl⟩
  · by_cases h2 : b < a
    · have HE : Hid (Md.cmpI a b = 1) := Lib.hid (by unfold Md.cmpI; rw [if_neg h, if_pos h2])
      go_wp2
      go_ret
      exact ⟨by rw [HE.out] <;> rfl, rfl⟩
    · have HE : Hid (Md.cmpI a b = 0) := Lib.hid (by unfold Md.cmpI; rw [if_neg h, if_neg h2])
      go_wp2
      go_ret
      exact ⟨by rw [HE.out] <;> rfl, rfl⟩
theorem mclo_any (x : Gs4) (g : Int) (w : World) : Calls Tryd.prog 90 #[.agg #[.int .i64 x.1, .int .i64 x.2.1, .int .i64 x.2.2.1, .int .i64 x.2.2.2], .int .i64 g] w fun e w' => e = .returned (.int .i64 (Md.cmpI x.1 g)) ∧ Ext w w' := by
  obtain ⟨w1, hw1⟩ : ∃ w1, w.alloc (.cells #[.int .i64 x.1, .int .i64 x.2.1, .int .i64 x.2.2.1, .int .i64 x.2.2.2] 49) = w1 := ⟨_, rfl⟩
  have hx : Ext w w1 := by rw [← hw1]; exact (Ext.refl w).alloc _
  have hb : w1.heap[w.heap.size]? = some (.cells #[.int .i64 x.1, .int .i64 x.2.1, .int .i64 x.2.2.1, .int .i64 x.2.2.2] 49 (0, 0)) := by rw [← hw1]; exact blk_new w _
  have h1 := blk_cell hb 0 _ rfl
  have HX := Lib.hid hx
  have HW := Lib.hid hw1
  clear hx hb hw1
  go_enter Tryd.func90, Tryd.ntmps90
  go_upto_region 1 with fail
  rw [HW.out]
  go_wp2_with fail
  refine (mcmp_any x.1 g w1).mono ?_
  rintro e w2 ⟨rfl, rfl⟩
  go_wp2
  go_ret
  exact ⟨rfl, HX.out⟩
set_option maxRecDepth 100000 in
set_option maxHeartbeats 4000000 in
theorem mbs_any (A : Option Addr) (c : Nat) (gs : List Gs4) (g : Int) (w : World) (h : RowsAt 4 snGCells w (.slice A gs.length c) gs) (hr : Md.rises gs) (hl : gs.length ≤ 10000) (r : Bool) (hrr : (Md.fnd gs g).isSome = r) (q : Nat) (hq : Md.gpos gs g = q) :
    Calls Tryd.prog 89 #[.slice A gs.length c, .int .i64 g, .func (.func 90) #[] #[]] w fun e w' => e = .returned (.tuple #[.int .i64 q, .bool r]) ∧ Ext w w' := by
  have H := Lib.hid h
  have HRI := Lib.hid hr
  have HRR := Lib.hid hrr
  have HQ := Lib.hid hq
  have hl' : (gs.length : Int) ≤ 10000 := by omega
  clear h hr hrr hq
  go_enter Tryd.func89, Tryd.ntmps89
  go_wp2_with fail
  go_loopw [9, 10] (fun iv jv wr => ∃ i j : Nat, i ≤ j ∧ j ≤ gs.length ∧ iv = .int .i64 i ∧ jv = .int .i64 j ∧ (∀ (a : Nat) z, gs[a]? = some z → a < i → z.1 < g) ∧ (∀ (a : Nat) z, gs[a]? = some z → j ≤ a → g ≤ z.1) ∧ Ext w wr) (fun iv jv _ => (intOf jv).toNat - (intOf iv).toNat)
  case atStart => exact ⟨0, gs.length, by omega, by omega, rfl, rfl, fun a z _ h => by omega, fun a z hz h => by have := (List.getElem?_eq_some_iff.1 hz).1; omega, Ext.refl _⟩
  case round =>
    obtain ⟨i, j, hij, hjl, rfl, rfl, h1, h2, hx⟩ := hrel
    have H1 := Lib.hid h1
    have H2 := Lib.hid h2
    have HX := Lib.hid hx
    clear h1 h2 hx
    by_cases hlt : i < j
    · obtain ⟨m, hm⟩ : ∃ m : Nat, (i + j) / 2 = m := ⟨_, rfl⟩
      have hmi : i ≤ m ∧ m < j := by omega
      have hmm : ((i : Int) + (j : Int)) / 2 = (m : Int) := by omega
      go_upto_region 5 with fail
      try rw [hmm]
      have HMI := Lib.hid hmi
      clear hm hmm hmi
      obtain ⟨y, hy⟩ : ∃ y, gs[m]? = some y := ⟨_, List.getElem?_eq_getElem (by have := HMI.out; omega)⟩
      obtain ⟨b, o, hA, hb, hc⟩ := (H.out.ext HX.out).get hy
      subst hA
      have k0 := hc 0 _ rfl
      have k1 := hc 1 _ rfl
      have k2 := hc 2 _ rfl
      have k3 := hc 3 _ rfl
      rw [Nat.add_zero] at k0
      have l1 : (m : Int) < (gs.length : Int) := by have := HMI.out; omega
      have l2 : (m : Int) < 100000 := by have := HMI.out; omega
      have HY := Lib.hid hy
      clear hc hb hy
      go_wp2_with fail
      refine (mclo_any y g wr).mono ?_
      rintro e wa ⟨rfl, hxa⟩
      have HXA := Lib.hid (HX.out.trans hxa)
      clear hxa k0 k1 k2 k3 l1 l2
      obtain ⟨ci, hci⟩ : ∃ ci, Md.cmpI y.1 g = ci := ⟨_, rfl⟩
      rw [hci]
      by_cases hyg : y.1 < g
      · have d1 : decide (ci < 0) = true := decide_eq_true (by rw [← hci]; unfold Md.cmpI; rw [if_pos hyg]; decide)
        have HYG := Lib.hid hyg
        clear hyg hci
        go_simp
        have l2 : (m : Int) < 100000 := by have := HMI.out; omega
        go_wp2
        go_roundw
        case rel =>
          have hmi := HMI.out
          refine ⟨m + 1, j, by omega, by omega, by go_num, rfl, fun a z hz ha => ?_, H2.out, HXA.out⟩
          by_cases ham : a < m
          · have := Md.rises_lt HRI.out hz HY.out ham; have := HYG.out; omega
          · obtain rfl : a = m := by omega
            rw [HY.out] at hz
            obtain rfl := Option.some.inj hz
            exact HYG.out
        case measure => have hmi := HMI.out; simp [intOf]; omega
      · have d1 : decide (ci < 0) = false := decide_eq_false (by rw [← hci]; unfold Md.cmpI; rw [if_neg hyg]; split <;> decide)
        have HYG := Lib.hid hyg
        clear hyg hci
        go_wp2
        go_roundw
        case rel =>
          have hmi := HMI.out
          refine ⟨i, m, by omega, by omega, rfl, by go_num, H1.out, fun a z hz ha => ?_, HXA.out⟩
          by_cases ham : m < a
          · have := Md.rises_lt HRI.out HY.out hz ham; have := HYG.out; omega
          · obtain rfl : a = m := by omega
            rw [HY.out] at hz
            obtain rfl := Option.some.inj hz
            have := HYG.out
            omega
        case measure => have hmi := HMI.out; simp [intOf]; omega
    · obtain rfl : i = j := by omega
      have hgp := Md.gpos_some HRI.out H1.out H2.out hjl
      have HQI : Hid (i = q) := Lib.hid (hgp.1.symm.trans HQ.out)
      have HSO := Lib.hid hgp.2
      clear hgp hlt hij
      by_cases hin : i < gs.length
      · obtain ⟨y, hy⟩ : ∃ y, gs[i]? = some y := ⟨_, List.getElem?_eq_getElem hin⟩
        obtain ⟨b, o, hA, hb, hc⟩ := (H.out.ext HX.out).get hy
        subst hA
        have k0 := hc 0 _ rfl
        have k1 := hc 1 _ rfl
        have k2 := hc 2 _ rfl
        have k3 := hc 3 _ rfl
        rw [Nat.add_zero] at k0
        have l1 : (i : Int) < (gs.length : Int) := by omega
        have l2 : (i : Int) < 100000 := by omega
        have HY := Lib.hid hy
        clear hc hb hy
        go_wp2_with fail
        refine (mclo_any y g wr).mono ?_
        rintro e wa ⟨rfl, hxa⟩
        have HXA := Lib.hid (HX.out.trans hxa)
        clear hxa k0 k1 k2 k3 l1 l2
        obtain ⟨ci, hci⟩ : ∃ ci, Md.cmpI y.1 g = ci := ⟨_, rfl⟩
        rw [hci]
        have hge := H2.out i y HY.out (Nat.le_refl _)
        by_cases hyg : y.1 = g
        · have d1 : (ci == 0) = true := by rw [← hci]; unfold Md.cmpI; rw [if_neg (by omega), if_neg (by omega)]; rfl
          have HRT : Hid (r = true) := Lib.hid (by rw [← HRR.out]; exact HSO.out.2 ⟨y, HY.out, hyg⟩)
          clear hyg hci hge
          go_wp2
          go_ret2
          exact ⟨by rw [HRT.out, HQI.out] <;> rfl, HXA.out⟩
        · have d1 : (ci == 0) = false := by rw [← hci]; unfold Md.cmpI; rw [if_neg (by omega), if_pos (by omega)]; rfl
          have HRT : Hid (r = false) := Lib.hid (by
            rw [← HRR.out]
            cases h : (Md.fnd gs g).isSome with
            | false => rfl
            | true =>
              obtain ⟨z, hz, hzg⟩ := HSO.out.1 h
              rw [HY.out] at hz
              obtain rfl := Option.some.inj hz
              exact absurd hzg hyg)
          clear hyg hci hge
          go_wp2
          go_ret2
          exact ⟨by rw [HRT.out, HQI.out] <;> rfl, HXA.out⟩
      · have HRT : Hid (r = false) := Lib.hid (by
          rw [← HRR.out]
          cases h : (Md.fnd gs g).isSome with
          | false => rfl
          | true =>
            obtain ⟨z, hz, hzg⟩ := HSO.out.1 h
            have := (List.getElem?_eq_some_iff.1 hz).1
            omega)
        go_wp2
        go_ret2
        exact ⟨by rw [HRT.out, HQI.out] <;> rfl, HX.out⟩
structure Tr (w0 w : World) (T : Nat) (x : Sn) (l : Lg) (wy st : Value) (p g : Int) (A : Option Addr) (c : Nat) (D : Option Addr) (d : Nat) : Prop where
  box : w.heap[T]? = some (.cells #[.int .i64 x.time, .slice A x.ps.length c, .slice D x.gs.length d, .int .i64 l.time, .int .i64 l.m, .int .i64 l.kind, .int .i64 l.g, .int .i64 l.p, .int .i64 l.seq, wy, st, .int .i64 p, .int .i64 g] 95 (0, 0))
  ps : OwnRows 61 2 snPCells w w0.heap.size (.slice A x.ps.length c) x.ps
  gs : OwnRows 49 4 snGCells w w0.heap.size (.slice D x.gs.length d) x.gs
  nA : ∀ b, A = some b → b.block ≠ T
  nD : ∀ b, D = some b → b.block ≠ T
  nn : ∀ a b, A = some a → D = some b → a.block ≠ b.block
  lo : w0.heap.size ≤ T
  ext : Ext w0 w
namespace Tr
variable {w0 w w' : World} {T : Nat} {x : Sn} {l : Lg} {wy st : Value} {p g : Int} {A D : Option Addr} {c d : Nat}
theorem more (h : Tr w0 w T x l wy st p g A c D d) (hx : Ext w w') : Tr w0 w' T x l wy st p g A c D d :=
  ⟨hx.blk h.box, h.ps.ext hx, h.gs.ext hx, h.nA, h.nD, h.nn, h.lo, h.ext.trans hx⟩
theorem setP (h : Tr w0 w T x l wy st p g A c D d) {k : Nat} {q q' : Int × Int} (hk : x.ps[k]? = some q) {j : Nat} {v : Value} (hj : j < 2) (hq : snPCells q' = (snPCells q).set j v) :
    ∃ b, A = some ⟨b, 0, none⟩ ∧ w.there b (k * 2 + j) 1 ∧ Tr w0 (w.setCell ⟨b, k * 2 + j, none⟩ v) T { x with ps := x.ps.set k q' } l wy st p g A c D d := by
  obtain ⟨b, c', hv, hown, hB, hlt, hth, ho, hu⟩ := h.ps.setCell snPCells_len hk hj hq
  simp only [Value.slice.injEq] at hv
  obtain ⟨hA, -, rfl⟩ := hv
  have hbT := h.nA _ hA
  refine ⟨b, hA, hth, ⟨?_, ?_, ?_, h.nA, h.nD, h.nn, h.lo, Ext.upd h.ext hu hB⟩⟩
  · rw [hu.block T (blk_lt h.box) (fun e => by injection e with e; exact hbT e.symm)]
    have := h.box
    simpa only [List.length_set] using this
  · simpa only [List.length_set] using ho
  · refine h.gs.kept (row := some b) hu ?_
    cases hD : D with
    | none => left; rfl
    | some a =>
      right
      rcases h.gs.2 with ⟨h1, -⟩ | ⟨b2, cap, cur, h1, rest⟩
      · rw [hD] at h1; simp at h1
      · rw [hD] at h1
        simp only [Value.slice.injEq, Option.some.injEq] at h1
        have e1 := h1.1
        subst e1
        intro h2
        simp only [Value.ownBlock, Option.some.injEq] at h2
        exact h.nn _ _ hA hD h2.symm
theorem setG (h : Tr w0 w T x l wy st p g A c D d) {k : Nat} {q q' : Gs4} (hk : x.gs[k]? = some q) {j : Nat} {v : Value} (hj : j < 4) (hq : snGCells q' = (snGCells q).set j v) :
    ∃ b, D = some ⟨b, 0, none⟩ ∧ w.there b (k * 4 + j) 1 ∧ Tr w0 (w.setCell ⟨b, k * 4 + j, none⟩ v) T { x with gs := x.gs.set k q' } l wy st p g A c D d := by
  obtain ⟨b, c', hv, hown, hB, hlt, hth, ho, hu⟩ := h.gs.setCell snGCells_len hk hj hq
  simp only [Value.slice.injEq] at hv
  obtain ⟨hA, -, rfl⟩ := hv
  have hbT := h.nD _ hA
  refine ⟨b, hA, hth, ⟨?_, ?_, ?_, h.nA, h.nD, h.nn, h.lo, Ext.upd h.ext hu hB⟩⟩
  · rw [hu.block T (blk_lt h.box) (fun e => by injection e with e; exact hbT e.symm)]
    have := h.box
    simpa only [List.length_set] using this
  · refine h.ps.kept (row := some b) hu ?_
    cases hD : A with
    | none => left; rfl
    | some a =>
      right
      rcases h.ps.2 with ⟨h1, -⟩ | ⟨b2, cap, cur, h1, rest⟩
      · rw [hD] at h1; simp at h1
      · rw [hD] at h1
        simp only [Value.slice.injEq, Option.some.injEq] at h1
        have e1 := h1.1
        subst e1
        intro h2
        simp only [Value.ownBlock, Option.some.injEq] at h2
        exact h.nn _ _ hD hA h2
  · simpa only [List.length_set] using ho
theorem rowP (h : Tr w0 w T x l wy st p g A c D d) {k : Nat} {q : Int × Int} (hk : x.ps[k]? = some q) : ∃ b, A = some ⟨b, 0, none⟩ ∧ b < w.heap.size ∧ w.cell? ⟨b, k * 2, none⟩ = some (.int .i64 q.1) ∧ w.cell? ⟨b, k * 2 + 1, none⟩ = some (.int .i64 q.2) := by
  obtain ⟨b, hA, _, _⟩ := h.setP hk (j := 0) (v := .int .i64 q.1) (by omega) (q' := q) rfl
  obtain ⟨b', o, hA', hb, hc⟩ := (OwnRows.rows snPCells_len h.ps).get hk
  rw [hA] at hA'
  simp only [Option.some.injEq, Addr.mk.injEq, and_true] at hA'
  obtain ⟨rfl, rfl⟩ := hA'
  have k0 := hc 0 _ rfl
  have k1 := hc 1 _ rfl
  rw [Nat.zero_add] at k0 k1
  exact ⟨b, hA, hb, k0, k1⟩
theorem rowG (h : Tr w0 w T x l wy st p g A c D d) {k : Nat} {q : Gs4} (hk : x.gs[k]? = some q) : ∃ b, D = some ⟨b, 0, none⟩ ∧ b < w.heap.size ∧ w.cell? ⟨b, k * 4, none⟩ = some (.int .i64 q.1) ∧ w.cell? ⟨b, k * 4 + 1, none⟩ = some (.int .i64 q.2.1) ∧ w.cell? ⟨b, k * 4 + 2, none⟩ = some (.int .i64 q.2.2.1) ∧ w.cell? ⟨b, k * 4 + 3, none⟩ = some (.int .i64 q.2.2.2) := by
  obtain ⟨b, hA, _, _⟩ := h.setG hk (j := 0) (v := .int .i64 q.1) (by omega) (q' := q) rfl
  obtain ⟨b', o, hA', hb, hc⟩ := (OwnRows.rows snGCells_len h.gs).get hk
  rw [hA] at hA'
  simp only [Option.some.injEq, Addr.mk.injEq, and_true] at hA'
  obtain ⟨rfl, rfl⟩ := hA'
  have k0 := hc 0 _ rfl
  have k1 := hc 1 _ rfl
  have k2 := hc 2 _ rfl
  have k3 := hc 3 _ rfl
  rw [Nat.zero_add] at k0 k1 k2 k3
  exact ⟨b, hA, hb, k0, k1, k2, k3⟩
end Tr
theorem there_one {w : World} {b o : Nat} (h : w.there b o 1) : (∃ v, w.cell? ⟨b, o, none⟩ = some v) ∧ w.frozen? ⟨b, o, none⟩ = false := by
  have := h 0 (by omega)
  rw [Nat.add_zero] at this
  exact ⟨Option.isSome_iff_exists.1 this.1, this.2⟩
def TrRet (w0 : World) (T : Nat) (y : Sn) (l : Lg) (wy st : Value) (p g : Int) (e : Ending) (w' : World) : Prop := e = .returned (.tuple #[]) ∧ ∃ A c D d, Tr w0 w' T y l wy st p g A c D d
set_option maxRecDepth 100000 in
set_option maxHeartbeats 2000000 in
theorem mindex_any (w0 w : World) (T : Nat) (x : Sn) (l : Lg) (wy st : Value) (p g : Int) (A : Option Addr) (c : Nat) (D : Option Addr) (d : Nat) (h : Tr w0 w T x l wy st p g A c D d) (n : Int) (hr : Md.rises x.gs) (hl : x.gs.length ≤ 10000) (r : Bool) (hrr : (Md.fnd x.gs n).isSome = r) (q : Nat) (hq : Md.gpos x.gs n = q) :
    Calls Tryd.prog 69 #[.pointer (some ⟨T, 0, none⟩), .int .i64 n] w fun e w' => e = .returned (.tuple #[.int .i64 q, .bool r]) ∧ Ext w w' := by
  have q2 := blk_cell h.box 2 _ rfl
  have H := Lib.hid (mbs_any D d x.gs n w (OwnRows.rows snGCells_len h.gs) hr hl r hrr q hq)
  clear h hr hrr hq
  go_enter Tryd.func69, Tryd.ntmps69
  go_wp2_with fail
  refine H.out.mono ?_
  rintro e w' ⟨rfl, hx⟩
  have HX := Lib.hid hx
  clear hx q2
  go_wp2
  go_ret2
  exact ⟨rfl, HX.out⟩
set_option maxRecDepth 100000 in
set_option maxHeartbeats 4000000 in
theorem mgive_any (w0 w : World) (T : Nat) (x : Sn) (l : Lg) (wy st : Value) (p g : Int) (A : Option Addr) (c : Nat) (D : Option Addr) (d : Nat) (h : Tr w0 w T x l wy st p g A c D d) (k : Nat) (m a b : Int) (hk : x.ps[k]? = some (a, b)) (hb : 0 ≤ b ∧ b < 4611686018427387904) (hl : x.ps.length ≤ 10000) :
    Calls Tryd.prog 63 #[.pointer (some ⟨T, 0, none⟩), .int .i64 ((k : Int) + 1), .int .i64 m] w (TrRet w0 T { x with ps := x.ps.set k (m, b + 1) } l wy st p g) := by
  have q1 := blk_cell h.box 1 _ rfl
  obtain ⟨bl, hA, hth, hT1⟩ := h.setP hk (j := 0) (v := .int .i64 m) (by omega) (q' := (m, b)) rfl
  have hk1 : (x.ps.set k (m, b))[k]? = some (m, b) := List.getElem?_set_self (List.getElem?_eq_some_iff.1 hk).1
  obtain ⟨bl2, hA2, hth2, hT2⟩ := hT1.setP (k := k) hk1 (j := 1) (v := .int .i64 (b + 1)) (by omega) (q' := (m, b + 1)) rfl
  obtain ⟨bl3, hA3, -, -, hs⟩ := hT1.rowP (k := k) hk1
  rw [hA] at hA2 hA3
  simp only [Option.some.injEq, Addr.mk.injEq, and_true] at hA2 hA3
  subst hA2 hA3
  simp only [List.set_set] at hT2
  obtain ⟨⟨v0, t0⟩, z0⟩ := there_one hth
  obtain ⟨⟨v1, t1⟩, z1⟩ := there_one hth2
  subst hA
  have q1' := blk_cell hT1.box 1 _ rfl
  rw [Nat.add_zero] at t0 z0 hT1 hT2 hs t1 z1 q1'
  obtain ⟨w1, hw1⟩ : ∃ w1, w.setCell ⟨bl, k * 2, none⟩ (.int .i64 m) = w1 := ⟨_, rfl⟩
  rw [hw1] at hT2 hs t1 z1 q1'
  simp only [List.length_set] at q1'
  have s1 := hs
  simp only at s1
  clear t1 hs
  have HW1 := Lib.hid hw1
  have HT2 := Lib.hid hT2
  have l1 : (k : Int) + 1 - 1 = (k : Int) := by omega
  have l2 : (k : Int) < (x.ps.length : Int) := by have := (List.getElem?_eq_some_iff.1 hk).1; omega
  have l3 : (k : Int) < 100000 := by omega
  have l4 : IntKind.i64.wrap (b + 1) = b + 1 := IntWalk.i64_in _ (by omega)
  clear h hk hth hT1 hk1 hth2 hT2 hw1 hb
  go_enter Tryd.func63, Tryd.ntmps63
  go_upto_region 1 with fail
  rw [HW1.out]
  go_wp2
  first | go_end0 | skip
  exact ⟨rfl, _, _, _, _, HT2.out⟩
set_option maxRecDepth 100000 in
set_option maxHeartbeats 8000000 in
theorem mbecome_any (w0 w : World) (T : Nat) (x : Sn) (l : Lg) (wy st : Value) (p g : Int) (A : Option Addr) (c : Nat) (D : Option Addr) (d : Nat) (h : Tr w0 w T x l wy st p g A c D d) (n s m : Int) (k : Nat) (a b e f : Int) (hr : Md.rises x.gs) (hf : Md.fnd x.gs n = some k) (hk : x.gs[k]? = some (a, b, e, f)) (hb : 0 ≤ f ∧ f < 4611686018427387904) (hl : x.gs.length ≤ 10000) :
    Calls Tryd.prog 67 #[.pointer (some ⟨T, 0, none⟩), .int .i64 n, .int .i64 s, .int .i64 m] w (TrRet w0 T { x with gs := x.gs.set k (a, s, m, f + 1) } l wy st p g) := by
  have H := Lib.hid h
  have HK := Lib.hid hk
  have HRI := Lib.hid hr
  have HF := Lib.hid (Md.gpos_fnd hr hf)
  have HF2 := Lib.hid hf
  clear h hk hr hf
  go_enter Tryd.func67, Tryd.ntmps67
  go_wp2_with fail
  refine (mindex_any w0 w T x l wy st p g A c D d H.out n HRI.out hl true (by rw [HF2.out]; rfl) k HF.out).mono ?_
  rintro e' wa ⟨rfl, hxa⟩
  have h := H.out.more hxa
  have hk := HK.out
  clear hxa
  have q1 := blk_cell h.box 2 _ rfl
  obtain ⟨bl, hA, hth, hT1⟩ := h.setG hk (j := 1) (v := .int .i64 s) (by omega) (q' := (a, s, e, f)) rfl
  have hlk := (List.getElem?_eq_some_iff.1 hk).1
  have hk1 : (x.gs.set k (a, s, e, f))[k]? = some (a, s, e, f) := List.getElem?_set_self hlk
  obtain ⟨bl2, hA2, hth2, hT2⟩ := hT1.setG (k := k) hk1 (j := 2) (v := .int .i64 m) (by omega) (q' := (a, s, m, f)) rfl
  have hk2 : ((x.gs.set k (a, s, e, f)).set k (a, s, m, f))[k]? = some (a, s, m, f) := List.getElem?_set_self (by rw [List.length_set]; exact hlk)
  obtain ⟨bl3, hA3, hth3, hT3⟩ := hT2.setG (k := k) hk2 (j := 3) (v := .int .i64 (f + 1)) (by omega) (q' := (a, s, m, f + 1)) rfl
  obtain ⟨bl4, hA4, -, -, -, -, hs⟩ := hT2.rowG (k := k) hk2
  rw [hA] at hA2 hA3 hA4
  simp only [Option.some.injEq, Addr.mk.injEq, and_true] at hA2 hA3 hA4
  subst hA2 hA3 hA4
  simp only [List.set_set] at hT3
  obtain ⟨⟨v0, t0⟩, z0⟩ := there_one hth
  obtain ⟨⟨v1, t1⟩, z1⟩ := there_one hth2
  obtain ⟨-, z2⟩ := there_one hth3
  subst hA
  have q1' := blk_cell hT1.box 2 _ rfl
  have q1'' := blk_cell hT2.box 2 _ rfl
  obtain ⟨w1, hw1⟩ : ∃ w1, wa.setCell ⟨bl, k * 4 + 1, none⟩ (.int .i64 s) = w1 := ⟨_, rfl⟩
  rw [hw1] at hT2 hT3 hs t1 z1 z2 q1' q1''
  obtain ⟨w2, hw2⟩ : ∃ w2, w1.setCell ⟨bl, k * 4 + 2, none⟩ (.int .i64 m) = w2 := ⟨_, rfl⟩
  rw [hw2] at hT3 hs z2 q1''
  simp only [List.length_set] at q1' q1''
  simp only at hs
  have HW1 := Lib.hid hw1
  have HW2 := Lib.hid hw2
  have HT3 := Lib.hid hT3
  have l2 : (k : Int) < (x.gs.length : Int) := by omega
  have l3 : (k : Int) < 100000 := by omega
  have l4 : IntKind.i64.wrap (f + 1) = f + 1 := IntWalk.i64_in _ (by omega)
  clear h hk hth hT1 hk1 hth2 hth3 hk2 hT2 hT3 hw1 hw2 hb hlk
  go_simp
  go_upto_region 2 with fail
  rw [HW1.out]
  go_upto_region 3 with fail
  rw [HW2.out]
  go_wp2
  first | go_end0 | skip
  exact ⟨rfl, _, _, _, _, HT3.out⟩
theorem zeroCells_len (z : Array Value) (n : Nat) : (Builtin.zeroCells z n).toList.length = n * z.size := by simp [Builtin.zeroCells]
theorem zeroCells_one {z : Array Value} (h1 : ∀ u ∈ z.toList, u.oneCell' = true) (n : Nat) : ∀ u ∈ (Builtin.zeroCells z n).toList, u.oneCell' = true := by
  intro u hu
  simp only [Builtin.zeroCells, Array.toList_map, List.mem_map, Array.mem_toList_iff, Array.mem_range] at hu
  obtain ⟨i, hi, rfl⟩ := hu
  have hz : 0 < z.size := Nat.pos_of_ne_zero fun e => by rw [e] at hi; omega
  have hlt : i % z.size < z.size := Nat.mod_lt _ hz
  rw [getElem!_pos z (i % z.size) hlt]
  exact h1 _ (Array.mem_toList_iff.2 (Array.getElem_mem hlt))
theorem run_clear_rows {P : Program} (w : World) (t e : TypeId) (z : Value) (m : Nat) (ht : P.underlying t = some (.slice e)) (hv : ∀ w, (zeroValue e).run P w = .ok z w) (hz : z.cells.size = m) (h1 : ∀ u ∈ z.cells.toList, u.oneCell' = true) (b o n c : Nat) (hn : 0 < n) (hth : w.there b o (n * m)) :
    ∃ zs, zs.length = n * m ∧ ∀ ty, (Builtin.clear_ #[t] ty #[.slice (some ⟨b, o, none⟩) n c]).run P w = .ok (.tuple #[]) (w.setCells b o zs) := by
  refine ⟨(Builtin.zeroCells z.cells n).toList, by rw [zeroCells_len, hz], fun ty => ?_⟩
  have hst := run_storeCells_cells (P := P) b o (Builtin.zeroCells z.cells n).toList 0 w (by rw [zeroCells_len, hz]; intro j hj; simpa using (hth j hj).1) (by rw [zeroCells_len, hz]; intro j hj; simpa using (hth j hj).2) (zeroCells_one h1 n)
  simp only [Nat.add_zero] at hst
  obtain ⟨k, rfl⟩ : ∃ k, n = k + 1 := ⟨n - 1, by omega⟩
  simp [Builtin.clear_, run_underlying ht, hv, hst]
theorem own_first {α : Type} {e : TypeId} {m : Nat} {f : α → List Value} {w : World} {B g n c : Nat} {xs : List α} (hf : ∀ x, (f x).length = m) (h : OwnRows e m f w B (.slice (some ⟨g, 0, none⟩) n c) xs) {i : Nat} (hi : i ≤ xs.length) :
    OwnRows e m f w B (.slice (some ⟨g, 0, none⟩) i c) (xs.take i) := by
  have hmi : i * m ≤ xs.length * m := Nat.mul_le_mul_right _ hi
  have hl : (xs.take i).length = i := by rw [List.length_take]; omega
  rcases h.2 with ⟨e1, _⟩ | ⟨g', cap, cur, hv, hb, hg, hnc, hcm, hcs, htake⟩
  · cases e1
  · simp only [Value.slice.injEq, Option.some.injEq, Addr.mk.injEq, and_true] at hv
    obtain ⟨rfl, rfl, rfl⟩ := hv
    refine ⟨by rw [flatMap_len hf], .inr ⟨g, c, cur, by rw [hl], hb, hg, by omega, hcm, hcs, ?_⟩⟩
    rw [hl]
    have e1 : xs.flatMap f = (xs.take i).flatMap f ++ (xs.drop i).flatMap f := by rw [← List.flatMap_append, List.take_append_drop]
    have e2 : cur.toList.take (i * m) = (cur.toList.take (xs.length * m)).take (i * m) := by rw [List.take_take, Nat.min_eq_left hmi]
    rw [e2, htake, e1, List.take_left' (by rw [flatMap_len hf, hl])]
theorem own_behind {α : Type} {e : TypeId} {m : Nat} {f : α → List Value} {w : World} {B g n c : Nat} {xs : List α} (hf : ∀ x, (f x).length = m) (h : OwnRows e m f w B (.slice (some ⟨g, 0, none⟩) n c) xs) {zs : List Value} {k : Nat} (hz : zs.length = k * m) (hk : xs.length + k ≤ c) :
    w.there g (xs.length * m) (k * m) ∧ OwnRows e m f (w.setCells g (xs.length * m) zs) B (.slice (some ⟨g, 0, none⟩) n c) xs ∧ Upd g w (w.setCells g (xs.length * m) zs) := by
  rcases h.2 with ⟨e1, _⟩ | ⟨g', cap, cur, hv, hb, hg, hnc, hcm, hcs, htake⟩
  · cases e1
  · simp only [Value.slice.injEq, Option.some.injEq, Addr.mk.injEq, and_true] at hv
    obtain ⟨rfl, rfl, rfl⟩ := hv
    have hmc : (xs.length + k) * m ≤ c * m := Nat.mul_le_mul_right _ hk
    rw [Nat.add_mul] at hmc
    obtain ⟨cs', h1, h2, h3⟩ := setCells_mid zs w cur (xs.length * m) hg (by rw [hz, hcs]; omega)
    refine ⟨fun j hj => ⟨by rw [blk_cell hg _ _ (Array.getElem?_eq_getElem (by rw [hcs]; omega))]; rfl, frozen_of_row _ _ _ _ _ hg⟩, ⟨h.1, .inr ⟨g, c, cs', rfl, hb, h1, hnc, hcm, h2.trans hcs, ?_⟩⟩, setCells_upd _ _ _ _⟩
    rw [← htake]
    apply List.ext_getElem?
    intro t
    rw [List.getElem?_take, List.getElem?_take]
    by_cases ht : t < xs.length * m
    · rw [if_pos ht, if_pos ht, Array.getElem?_toList, Array.getElem?_toList, h3 t, if_neg (by omega)]
    · rw [if_neg ht, if_neg ht]
theorem gsize_run : ∀ w, (sizeOf 49).run Tryd.prog w = .ok 4 w := fun w => by kernel_rfl
theorem cutG_to (A : Option Addr) (n c k : Nat) (h1 : k ≤ c) (v : World) : (Instr.slice 23 (.slice A n c) none (some (.int .i64 k)) none).run Tryd.prog v = .ok (.slice A k c) v := by
  have hk : (k : Int) ≤ (c : Int) := by omega
  simp [Instr.slice, run_underlying Tryd.underlying23, Instr.sliceBounds, Instr.sliceBound, asIntOf, hk, gsize_run]
  try rw [if_pos (by omega)]
  have hA' : (if c = 0 then A else Option.map (fun x => x.add 0) A) = A := by cases A <;> simp [Addr.add]
  try rw [hA']
theorem cutG_from (g n c k : Nat) (h1 : k + 1 < n) (h2 : n ≤ c) (v : World) : (Instr.slice 23 (.slice (some ⟨g, 0, none⟩) n c) (some (.int .i64 ((k : Int) + 1))) none none).run Tryd.prog v = .ok (.slice (some ⟨g, (k + 1) * 4, none⟩) (n - (k + 1)) (c - (k + 1))) v := by
  have hk : (k : Int) + 1 ≤ (n : Int) := by omega
  have h0 : (0 : Int) ≤ (k : Int) + 1 := by omega
  have hz : ((k : Int) + 1).toNat = k + 1 := by omega
  simp [Instr.slice, run_underlying Tryd.underlying23, Instr.sliceBounds, Instr.sliceBound, asIntOf, hk, hz, h0, gsize_run]
  try (rw [if_pos (by omega)])
  rw [if_neg (by omega)]
  simp [Addr.add]
  try omega
theorem cutG_end (g k c : Nat) (h2 : k + 1 ≤ c) (v0 : World) : ∃ A c', ∀ v, (Instr.slice 23 (.slice (some ⟨g, 0, none⟩) (k + 1) c) (some (.int .i64 ((k : Int) + 1))) none none).run Tryd.prog v = .ok (.slice A 0 c') v := by
  have h0 : (0 : Int) ≤ (k : Int) + 1 := by omega
  have hz : ((k : Int) + 1).toNat = k + 1 := by omega
  refine ⟨if c = k + 1 then some ⟨g, 0, none⟩ else some (Addr.add ⟨g, 0, none⟩ ((k + 1) * 4)), c - (k + 1), fun v => ?_⟩
  simp [Instr.slice, run_underlying Tryd.underlying23, Instr.sliceBounds, Instr.sliceBound, asIntOf, hz, h0, gsize_run]
  try (rw [if_pos (by omega)])
  try (split <;> rfl)
  try (intro hh; omega)
theorem cutG_one (g n c : Nat) (h1 : n + 1 ≤ c) (v : World) : (Instr.slice 23 (.slice (some ⟨g, 0, none⟩) n c) (some (.int .i64 n)) (some (.int .i64 ((n : Int) + 1))) none).run Tryd.prog v = .ok (.slice (some ⟨g, n * 4, none⟩) 1 (c - n)) v := by
  have hk : (n : Int) + 1 ≤ (c : Int) := by omega
  simp [Instr.slice, run_underlying Tryd.underlying23, Instr.sliceBounds, Instr.sliceBound, asIntOf, hk, gsize_run]
  rw [if_pos (by omega), if_neg (by omega)]
  simp [Addr.add]
  try omega
theorem cutG_all (A : Option Addr) (n c i : Nat) (h2 : i + 1 ≤ n) (h3 : n ≤ c) (v : World) : ∃ u, (Instr.slice 23 (.slice A n c) (some (.int .i64 i)) (some (.int .i64 ((i : Int) + 1))) (some (.int .i64 n))).run Tryd.prog v = .ok u v := by
  have hk : (n : Int) ≤ (c : Int) := by omega
  have hk2 : (i : Int) + 1 ≤ (n : Int) := by omega
  have hk3 : (i : Int) ≤ (i : Int) + 1 := by omega
  have h0 : (0 : Int) ≤ (i : Int) + 1 := by omega
  have hz : ((i : Int) + 1).toNat = i + 1 := by omega
  simp [Instr.slice, run_underlying Tryd.underlying23, Instr.sliceBounds, Instr.sliceBound, asIntOf, hk, hk2, hk3, hz, h0, gsize_run]
  try (rw [if_pos h3])
  try (rw [if_pos (by omega)])
  try (rw [if_pos (by omega)])
  try exact ⟨_, rfl⟩
theorem run_copy_rows {P : Program} (w : World) (dT sT ty elem : TypeId) {i : TypeInfo} {m : Nat} (hu : P.underlying dT = some (.slice elem)) (hi : P.info? elem = some i) (hm : i.size = m) (b o dLen dCap : Nat) (a : Addr) (sLen sCap k : Nat) (hk : Nat.min sLen dLen = k) (cs : List Value) (hn : cs.length = k * m)
    (hsrc : ∀ j v, cs[j]? = some v → w.cell? (a.add j) = some v) (hth : w.there b o (k * m)) (h1 : ∀ v ∈ cs, v.oneCell' = true) :
    (Builtin.copy_ #[dT, sT] ty #[.slice (some ⟨b, o, none⟩) dLen dCap, .slice (some a) sLen sCap]).run P w = .ok (goInt k) (w.setCells b o cs) := by
  have hl := run_loadCells_list (P := P) w a cs hsrc
  have hst := run_storeCells_cells (P := P) b o cs 0 w (by rw [hn]; intro j hj; simpa using (hth j hj).1) (by rw [hn]; intro j hj; simpa using (hth j hj).2) h1
  rw [hn] at hl
  simp only [Nat.add_zero] at hst
  simp [Builtin.copy_, run_underlying hu, Builtin.lenOf, Builtin.firstCells, sizeOf, typeInfo, hi, hm, hk, hl, hst]
theorem OwnRows.over {α : Type} {e : TypeId} {m : Nat} {f : α → List Value} {w : World} {B g n c : Nat} {xs : List α} (hf : ∀ x, (f x).length = m) (h : OwnRows e m f w B (.slice (some ⟨g, 0, none⟩) n c) xs) {i : Nat} (hi : i ≤ xs.length) {ys : List α} (hc : i + ys.length ≤ c) :
    w.there g (i * m) (ys.length * m) ∧ OwnRows e m f (w.setCells g (i * m) (ys.flatMap f)) B (.slice (some ⟨g, 0, none⟩) (i + ys.length) c) (xs.take i ++ ys) ∧ Upd g w (w.setCells g (i * m) (ys.flatMap f)) := by
  have hmi : i * m ≤ xs.length * m := Nat.mul_le_mul_right _ hi
  have hl : (xs.take i).length = i := by rw [List.length_take]; omega
  rcases h.2 with ⟨e1, _⟩ | ⟨g', cap, cur, hv, hb, hg, hnc, hcm, hcs, htake⟩
  · cases e1
  · simp only [Value.slice.injEq, Option.some.injEq, Addr.mk.injEq, and_true] at hv
    obtain ⟨rfl, rfl, rfl⟩ := hv
    have hmc : (i + ys.length) * m ≤ c * m := Nat.mul_le_mul_right _ hc
    rw [Nat.add_mul] at hmc
    have hzl : (ys.flatMap f).length = ys.length * m := flatMap_len hf ys
    obtain ⟨cs', h1, h2, h3⟩ := setCells_mid (ys.flatMap f) w cur (i * m) hg (by rw [hzl, hcs]; omega)
    refine ⟨fun j hj => ⟨by rw [blk_cell hg _ _ (Array.getElem?_eq_getElem (by rw [hcs]; omega))]; rfl, frozen_of_row _ _ _ _ _ hg⟩, ⟨by rw [flatMap_len hf], .inr ⟨g, c, cs', by rw [List.length_append, hl], hb, h1, by rw [List.length_append, hl]; exact hc, hcm, h2.trans hcs, ?_⟩⟩, setCells_upd _ _ _ _⟩
    have hfst : cur.toList.take (i * m) = (xs.take i).flatMap f := by
      have e1 : xs.flatMap f = (xs.take i).flatMap f ++ (xs.drop i).flatMap f := by rw [← List.flatMap_append, List.take_append_drop]
      have e2 : cur.toList.take (i * m) = (cur.toList.take (xs.length * m)).take (i * m) := by rw [List.take_take, Nat.min_eq_left hmi]
      rw [e2, htake, e1, List.take_left' (by rw [flatMap_len hf, hl])]
    rw [List.flatMap_append, ← hfst, List.length_append, hl, Nat.add_mul]
    have hcl : (cur.toList.take (i * m)).length = i * m := by rw [List.length_take, Array.length_toList, hcs]; omega
    apply List.ext_getElem?
    intro t
    rw [List.getElem?_take, Array.getElem?_toList, h3 t]
    by_cases ht : t < i * m
    · rw [if_pos (by omega), if_neg (by omega), List.getElem?_append_left (by omega), List.getElem?_take, if_pos ht, Array.getElem?_toList]
    · rw [List.getElem?_append_right (by omega), hcl]
      by_cases ht2 : t < i * m + ys.length * m
      · rw [if_pos ht2, if_pos ⟨by omega, by rw [hzl]; omega⟩]
      · rw [if_neg ht2, List.getElem?_eq_none (by rw [hzl]; omega)]
theorem OwnRows.cells {α : Type} {e : TypeId} {m : Nat} {f : α → List Value} {w : World} {B g n c : Nat} {xs : List α} (h : OwnRows e m f w B (.slice (some ⟨g, 0, none⟩) n c) xs) {j : Nat} {u : Value} (hj : (xs.flatMap f)[j]? = some u) : w.cell? ⟨g, j, none⟩ = some u := by
  rcases h.2 with ⟨e1, _⟩ | ⟨g', cap, cur, hv, hb, hg, hnc, hcm, hcs, htake⟩
  · cases e1
  · simp only [Value.slice.injEq, Option.some.injEq, Addr.mk.injEq, and_true] at hv
    obtain ⟨rfl, rfl, rfl⟩ := hv
    refine blk_cell hg j u ?_
    rw [← htake, List.getElem?_take] at hj
    split at hj
    · rw [Array.getElem?_toList] at hj; exact hj
    · cases hj
theorem OwnRows.from {α : Type} {e : TypeId} {m : Nat} {f : α → List Value} {w : World} {B g n c : Nat} {xs : List α} (hf : ∀ x, (f x).length = m) (h : OwnRows e m f w B (.slice (some ⟨g, 0, none⟩) n c) xs) {i : Nat} (hi : i ≤ xs.length) {j : Nat} {u : Value} (hj : ((xs.drop i).flatMap f)[j]? = some u) : w.cell? ⟨g, i * m + j, none⟩ = some u := by
  refine h.cells ?_
  have e1 : xs.flatMap f = (xs.take i).flatMap f ++ (xs.drop i).flatMap f := by rw [← List.flatMap_append, List.take_append_drop]
  have hl : ((xs.take i).flatMap f).length = i * m := by rw [flatMap_len hf, List.length_take, Nat.min_eq_left hi]
  rw [e1, List.getElem?_append_right (by omega), hl, Nat.add_sub_cancel_left]
  exact hj
theorem OwnRows.room {α : Type} {P : Program} {e t tn : TypeId} {m : Nat} {f : α → List Value} {w : World} {B g n c : Nat} {xs : List α} (ty : TypeId) {bytes : Nat} {i : TypeInfo} {z : Value} {kq kn : IntKind} (ht : P.underlying t = some (.slice e)) (htn : P.underlying tn = some (.int kn)) (hi : P.info? e = some i) (hz : i.zero = some z) (hsize : i.size = m) (hby : i.bytes = bytes) (hzs : z.cells.size = m) (hsz : 0 < m) (hf : ∀ x, (f x).length = m)
    (h : OwnRows e m f w B (.slice (some ⟨g, 0, none⟩) n c) xs) {k : Nat} (h0 : 0 < k) (hg : c < n + k) (h63 : n + k ≤ maxLen) (hbytes : (n + k) * bytes ≤ 140737488355328) (hbase : B ≤ w.heap.size) :
    ∃ c' w', (Builtin.append_ #[t, tn] ty #[.slice (some ⟨g, 0, none⟩) n c, .int kq k]).run P w = .ok (.slice (some ⟨w.heap.size, 0, none⟩) (n + k) c') w' ∧ n + k ≤ c' ∧ OwnRows e m f w' B (.slice (some ⟨w.heap.size, 0, none⟩) n c') xs ∧ Ext w w' := by
  have hn : n = xs.length := by
    rcases h.2 with ⟨e1, _⟩ | ⟨g', cap, cur, hv, _⟩
    · cases e1
    · simp only [Value.slice.injEq] at hv; exact hv.2.1
  subst hsize
  subst hby
  have hl : (xs.flatMap f).length = n * i.size := by rw [flatMap_len hf, hn]
  have hold := run_firstCells_some (P := P) w.drew i.size n ⟨g, 0, none⟩ n c (xs.flatMap f) hl (fun j u hj => by
    have := h.cells hj
    unfold Addr.add
    by_cases hj0 : j = 0
    · subst hj0; simpa using this
    · rw [if_neg hj0]; simpa using this)
  have hk48 : k * i.bytes ≤ (n + k) * i.bytes := Nat.mul_le_mul_right _ (by omega)
  have hr := Go.Lib.run_append_grow_zeros (P := P) w t tn ty e i z kq kn ht htn hi hz (some ⟨g, 0, none⟩) n c (xs.flatMap f) hold k h0 hsz hg (by simp only [maxLen] at h63; omega) (by omega) (growslice_fits hg hbytes)
  have hge := grownCap_ge w (n + k) c e
  have hcm : grownCap w (n + k) c e ≤ maxLen := grownCap_le_maxLen w (n + k) c e h63
  refine ⟨_, _, hr, hge, ⟨by rw [flatMap_len hf], .inr ⟨w.heap.size, _, _, by rw [hn], hbase, heap_alloc_new w.drew _, by omega, hcm, ?_, ?_⟩⟩, (Ext.refl w).drew.alloc _⟩
  · simp only [Array.size_append, List.size_toArray, size_zeroCells, hzs, hl, ← Nat.add_mul]
    congr 1
    omega
  · simp only [Array.toList_append, List.append_assoc]
    rw [List.take_left' (by rw [hl, hn])]
end Go.Proofs.YtohncgikdlbogaaDoor
