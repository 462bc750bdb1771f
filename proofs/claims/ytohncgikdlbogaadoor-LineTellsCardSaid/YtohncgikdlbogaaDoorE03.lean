/-
  Several texts in one: Hb, Hc, Nm, Nn, Tc, Td, Tp, Tzf, Gk, Gl, Hd, He, Hf.
-/
import Derived.Test.YtohncgikdlbogaaDoorE01
import Derived.Test.YtohncgikdlbogaaDoorE02
import Derived.Recover
import Derived.WalkLawsBesides
import Derived.Deep.Cut
import Derived.Deep.DeepCutAuto
import Derived.DeepKeys
import Derived.Lib.SliceRun
import Derived.Deep.MidRow
import Derived.Laws.ResultCell
import Derived.Laws.Rows
set_option linter.unusedVariables false
set_option linter.unusedSimpArgs false
namespace Go.Proofs.YtohncgikdlbogaaDoor
open Go.RowKit
def impV : Value := .iface 86 (.agg #[])
def impC : List PanicEntry := [{ v := impV, recovered := false }]
theorem need_yes (w : World) : Calls Tryd.prog 45 #[.bool true] w fun e w' => e = .returned (.tuple #[]) ∧ w' = w := by
 go_enter Tryd.func45, Tryd.ntmps45
 go_wp2
 first | go_end0 | skip
 exact ⟨rfl, rfl⟩
theorem need_no (w : World) : Calls Tryd.prog 45 #[.bool false] w fun e w' => e = .panicked impC ∧ w' = w := by
 go_enter Tryd.func45, Tryd.ntmps45
 go_wp2
 exact ⟨rfl, rfl, rfl⟩
theorem Md.hasP_no {m : Int} : ∀ {l : List (Int × Int)} {i : Int}, (∀ (j : Nat) p, l[j]? = some p → p.1 ≠ m) → Md.hasP l m i = 0
 | [], _, _ => rfl
 | p :: l, i, h => by
  unfold Md.hasP
  rw [if_neg (h 0 p rfl)]
  exact Md.hasP_no fun j q hq => h (j + 1) q (by simpa using hq)
theorem Md.hasP_at {m : Int} : ∀ {l : List (Int × Int)} {i : Int} {k : Nat} {p : Int × Int}, l[k]? = some p → p.1 = m → (∀ (j : Nat) q, l[j]? = some q → j < k → q.1 ≠ m) → Md.hasP l m i = i + (k : Int)
 | [], _, _, _, h, _, _ => by simp at h
 | q :: l, i, 0, p, h, h1, h2 => by
  obtain rfl : q = p := by simpa using h
  unfold Md.hasP
  rw [if_pos h1]; simp
 | q :: l, i, k + 1, p, h, h1, h2 => by
  unfold Md.hasP
  rw [if_neg (h2 0 q rfl (by omega)), Md.hasP_at (k := k) (p := p) (by simpa using h) h1 fun j r hr hj => h2 (j + 1) r (by simpa using hr) (by omega)]
  omega
theorem Md.hasG_no {m : Int} : ∀ {l : List Gs4}, (∀ (j : Nat) g, l[j]? = some g → g.2.2.1 ≠ m) → Md.hasG l m = 0
 | [], _ => rfl
 | g :: l, h => by
  unfold Md.hasG
  rw [if_neg (h 0 g rfl)]
  exact Md.hasG_no fun j q hq => h (j + 1) q (by simpa using hq)
theorem Md.hasG_at {m : Int} : ∀ {l : List Gs4} {k : Nat} {g : Gs4}, l[k]? = some g → g.2.2.1 = m → (∀ (j : Nat) q, l[j]? = some q → j < k → q.2.2.1 ≠ m) → Md.hasG l m = g.1
 | [], _, _, h, _, _ => by simp at h
 | q :: l, 0, p, h, h1, h2 => by
  obtain rfl : q = p := by simpa using h
  unfold Md.hasG
  rw [if_pos h1]
 | q :: l, k + 1, p, h, h1, h2 => by
  unfold Md.hasG
  rw [if_neg (h2 0 q rfl (by omega)), Md.hasG_at (k := k) (g := p) (by simpa using h) h1 fun j r hr hj => h2 (j + 1) r (by simpa using hr) (by omega)]
theorem hclo1_any (x : Int × Int) (g : Int) (G : Nat) (r : Bool) (hr : (x.1 == g) = r) (w : World) (hG : w.cell? ⟨G, 0, none⟩ = some (.int .i64 g)) (hlt : G < w.heap.size) : Calls Tryd.prog 60 #[.agg #[.int .i64 x.1, .int .i64 x.2], .pointer (some ⟨G, 0, none⟩)] w fun e w' => e = .returned (.bool r) ∧ Ext w w' := by
 obtain ⟨w1, hw1⟩ : ∃ w1, w.alloc (.cells #[.int .i64 x.1, .int .i64 x.2] 61) = w1 := ⟨_, rfl⟩
 have hx : Ext w w1 := by rw [← hw1]; exact (Ext.refl w).alloc _
 have hb : w1.heap[w.heap.size]? = some (.cells #[.int .i64 x.1, .int .i64 x.2] 61 (0, 0)) := by rw [← hw1]; exact blk_new w _
 have hG1 : w1.cell? ⟨G, 0, none⟩ = some (.int .i64 g) := by rw [Below.cell (p := ⟨G, 0, none⟩) hx hlt]; exact hG
 have h1 := blk_cell hb 0 _ rfl
 have HX := Lib.hid hx
 have HR := Lib.hid hr
 have HW := Lib.hid hw1
 clear hx hb hG hr hw1 hlt
 go_enter Tryd.func60, Tryd.ntmps60
 go_upto_region 1 with fail
 rw [HW.out]
 go_wp2
 go_ret
 exact ⟨by rw [← HR.out] <;> rfl, HX.out⟩
theorem hclo2_any (x : Gs4) (g : Int) (G : Nat) (r : Bool) (hr : (x.2.2.1 == g) = r) (w : World) (hG : w.cell? ⟨G, 0, none⟩ = some (.int .i64 g)) (hlt : G < w.heap.size) : Calls Tryd.prog 61 #[.agg #[.int .i64 x.1, .int .i64 x.2.1, .int .i64 x.2.2.1, .int .i64 x.2.2.2], .pointer (some ⟨G, 0, none⟩)] w fun e w' => e = .returned (.bool r) ∧ Ext w w' := by
 obtain ⟨w1, hw1⟩ : ∃ w1, w.alloc (.cells #[.int .i64 x.1, .int .i64 x.2.1, .int .i64 x.2.2.1, .int .i64 x.2.2.2] 49) = w1 := ⟨_, rfl⟩
 have hx : Ext w w1 := by rw [← hw1]; exact (Ext.refl w).alloc _
 have hb : w1.heap[w.heap.size]? = some (.cells #[.int .i64 x.1, .int .i64 x.2.1, .int .i64 x.2.2.1, .int .i64 x.2.2.2] 49 (0, 0)) := by rw [← hw1]; exact blk_new w _
 have hG1 : w1.cell? ⟨G, 0, none⟩ = some (.int .i64 g) := by rw [Below.cell (p := ⟨G, 0, none⟩) hx hlt]; exact hG
 have h1 := blk_cell hb 2 _ rfl
 have HX := Lib.hid hx
 have HR := Lib.hid hr
 have HW := Lib.hid hw1
 clear hx hb hG hr hw1 hlt
 go_enter Tryd.func61, Tryd.ntmps61
 go_upto_region 1 with fail
 rw [HW.out]
 go_wp2
 go_ret
 exact ⟨by rw [← HR.out] <;> rfl, HX.out⟩
set_option maxRecDepth 100000 in
set_option maxHeartbeats 2000000 in
theorem hidx1_any (A : Option Addr) (c : Nat) (l : List (Int × Int)) (g : Int) (G : Nat) (w : World) (h : RowsAt 2 snPCells w (.slice A l.length c) l) (hl : l.length ≤ 100000000) (hG : w.cell? ⟨G, 0, none⟩ = some (.int .i64 g)) (hGl : G < w.heap.size) :
    Calls Tryd.prog 59 #[.slice A l.length c, .func (.func 60) #[] #[.pointer (some ⟨G, 0, none⟩)]] w fun e w' => ∃ i : Int, e = .returned (.int .i64 i) ∧ ((i = -1 ∧ ∀ (j : Nat) x, l[j]? = some x → x.1 ≠ g) ∨ ∃ k : Nat, i = (k : Int) ∧ (∃ x, l[k]? = some x ∧ x.1 = g) ∧ ∀ (j : Nat) x, l[j]? = some x → j < k → x.1 ≠ g) ∧ Ext w w' := by
 have H := Lib.hid h
 have HG := Lib.hid hG
 have HGL := Lib.hid hGl
 have hl' : (l.length : Int) ≤ 100000000 := by omega
 clear h hG hGl
 go_enter Tryd.func59, Tryd.ntmps59
 go_wp2_with fail
 go_loopw [8] (fun iv wr => ∃ k : Nat, k ≤ l.length ∧ iv = .int .i64 k ∧ (∀ (j : Nat) x, l[j]? = some x → j < k → x.1 ≠ g) ∧ Ext w wr) (fun iv _ => l.length - (intOf iv).toNat)
 case atStart => exact ⟨0, Nat.zero_le _, rfl, fun j x _ h => by omega, Ext.refl _⟩
 case round =>
  obtain ⟨k, hk, rfl, hall, hx⟩ := hrel
  have HA := Lib.hid hall
  have HX := Lib.hid hx
  clear hall hx
  by_cases hlt : k < l.length
  · obtain ⟨x, hx⟩ : ∃ x, l[k]? = some x := ⟨_, List.getElem?_eq_getElem hlt⟩
    have HXK := Lib.hid hx
    have hcl := hclo1_any x g G _ rfl wr (by rw [Below.cell (p := ⟨G, 0, none⟩) HX.out HGL.out]; exact HG.out) (Nat.lt_of_lt_of_le HGL.out HX.out.size)
    have HCL := Lib.hid hcl
    obtain ⟨b, o, rfl, hb, hc⟩ := (H.out.ext HX.out).get hx
    have c0 := hc 0 _ rfl; have c1 := hc 1 _ rfl
    rw [Nat.add_zero] at c0
    clear hx hb hcl hc
    go_wp2_with fail
    refine HCL.out.mono ?_
    rintro e wa ⟨rfl, hxa⟩
    have HXA := Lib.hid (HX.out.trans hxa)
    clear hxa c0 c1
    by_cases h1 : x.1 = g
    · have HN := Lib.hid h1
      have h1' : (x.1 == g) = true := by simpa using h1
      clear h1
      go_wp2
      go_ret
      exact ⟨k, rfl, .inr ⟨k, rfl, ⟨x, HXK.out, HN.out⟩, HA.out⟩, HXA.out⟩
    · have h1' : (x.1 == g) = false := by simpa using h1
      have HN := Lib.hid h1
      clear h1
      go_wp2
      go_roundw
      case rel =>
       refine ⟨k + 1, by omega, by go_num, fun j y hy hj => ?_, HXA.out⟩
       by_cases hjk : j < k
       · exact HA.out j y hy hjk
       · obtain rfl : j = k := by omega
         have := HXK.out
         rw [hy] at this
         injection this with this
         rw [this]
         exact HN.out
      case measure => simp [intOf]; omega
  · obtain rfl : k = l.length := by omega
    go_wp2
    go_ret
    exact ⟨-1, rfl, .inl ⟨rfl, fun j x hj => HA.out j x hj (List.getElem?_eq_some_iff.1 hj).1⟩, HX.out⟩
set_option maxRecDepth 100000 in
set_option maxHeartbeats 2000000 in
theorem hidx2_any (A : Option Addr) (c : Nat) (l : List Gs4) (g : Int) (G : Nat) (w : World) (h : RowsAt 4 snGCells w (.slice A l.length c) l) (hl : l.length ≤ 100000000) (hG : w.cell? ⟨G, 0, none⟩ = some (.int .i64 g)) (hGl : G < w.heap.size) :
    Calls Tryd.prog 19 #[.slice A l.length c, .func (.func 61) #[] #[.pointer (some ⟨G, 0, none⟩)]] w fun e w' => ∃ i : Int, e = .returned (.int .i64 i) ∧ ((i = -1 ∧ ∀ (j : Nat) x, l[j]? = some x → x.2.2.1 ≠ g) ∨ ∃ k : Nat, i = (k : Int) ∧ (∃ x, l[k]? = some x ∧ x.2.2.1 = g) ∧ ∀ (j : Nat) x, l[j]? = some x → j < k → x.2.2.1 ≠ g) ∧ Ext w w' := by
 have H := Lib.hid h
 have HG := Lib.hid hG
 have HGL := Lib.hid hGl
 have hl' : (l.length : Int) ≤ 100000000 := by omega
 clear h hG hGl
 go_enter Tryd.func19, Tryd.ntmps19
 go_wp2_with fail
 go_loopw [8] (fun iv wr => ∃ k : Nat, k ≤ l.length ∧ iv = .int .i64 k ∧ (∀ (j : Nat) x, l[j]? = some x → j < k → x.2.2.1 ≠ g) ∧ Ext w wr) (fun iv _ => l.length - (intOf iv).toNat)
 case atStart => exact ⟨0, Nat.zero_le _, rfl, fun j x _ h => by omega, Ext.refl _⟩
 case round =>
  obtain ⟨k, hk, rfl, hall, hx⟩ := hrel
  have HA := Lib.hid hall
  have HX := Lib.hid hx
  clear hall hx
  by_cases hlt : k < l.length
  · obtain ⟨x, hx⟩ : ∃ x, l[k]? = some x := ⟨_, List.getElem?_eq_getElem hlt⟩
    have HXK := Lib.hid hx
    have hcl := hclo2_any x g G _ rfl wr (by rw [Below.cell (p := ⟨G, 0, none⟩) HX.out HGL.out]; exact HG.out) (Nat.lt_of_lt_of_le HGL.out HX.out.size)
    have HCL := Lib.hid hcl
    obtain ⟨b, o, rfl, hb, hc⟩ := (H.out.ext HX.out).get hx
    have c0 := hc 0 _ rfl; have c1 := hc 1 _ rfl; have c2 := hc 2 _ rfl; have c3 := hc 3 _ rfl
    rw [Nat.add_zero] at c0
    clear hx hb hcl hc
    go_wp2_with fail
    refine HCL.out.mono ?_
    rintro e wa ⟨rfl, hxa⟩
    have HXA := Lib.hid (HX.out.trans hxa)
    clear hxa c0 c1 c2 c3
    by_cases h1 : x.2.2.1 = g
    · have HN := Lib.hid h1
      have h1' : (x.2.2.1 == g) = true := by simpa using h1
      clear h1
      go_wp2
      go_ret
      exact ⟨k, rfl, .inr ⟨k, rfl, ⟨x, HXK.out, HN.out⟩, HA.out⟩, HXA.out⟩
    · have h1' : (x.2.2.1 == g) = false := by simpa using h1
      have HN := Lib.hid h1
      clear h1
      go_wp2
      go_roundw
      case rel =>
       refine ⟨k + 1, by omega, by go_num, fun j y hy hj => ?_, HXA.out⟩
       by_cases hjk : j < k
       · exact HA.out j y hy hjk
       · obtain rfl : j = k := by omega
         have := HXK.out
         rw [hy] at this
         injection this with this
         rw [this]
         exact HN.out
      case measure => simp [intOf]; omega
  · obtain rfl : k = l.length := by omega
    go_wp2
    go_ret
    exact ⟨-1, rfl, .inl ⟨rfl, fun j x hj => HA.out j x hj (List.getElem?_eq_some_iff.1 hj).1⟩, HX.out⟩
set_option maxRecDepth 100000 in
set_option maxHeartbeats 2000000 in
theorem mhas_any (v : Value) (x : Sn) (m : Int) (w : World) (hs : SnAt w v x) (hp : x.ps.length ≤ 10000) (hg : x.gs.length ≤ 10000) (ra rb : Int) (hra : Md.hasP x.ps m 1 = ra) (hrb : Md.hasG x.gs m = rb) :
    Calls Tryd.prog 46 #[v, .int .i64 m] w fun e w' => e = .returned (.tuple #[.int .i64 ra, .int .i64 rb]) ∧ Ext w w' := by
 subst hra hrb
 obtain ⟨A, c, B, d, rfl, h2, h3⟩ := hs
 obtain ⟨time, ps, gs⟩ := x
 simp only at h2 h3 hp hg ⊢
 obtain ⟨w1, hw1⟩ : ∃ w1, (w.alloc (.cells #[.int .i64 time, .slice A ps.length c, .slice B gs.length d] 25)).alloc (.cells #[.int .i64 m] 3) = w1 := ⟨_, rfl⟩
 have hx1 : Ext w w1 := by rw [← hw1]; exact ((Ext.refl w).alloc _).alloc _
 have hb1 : w1.heap[w.heap.size]? = some (.cells #[.int .i64 time, .slice A ps.length c, .slice B gs.length d] 25 (0, 0)) := by rw [← hw1]; exact blk_alloc (blk_new w _) _
 have hb2 : w1.heap[w.heap.size + 1]? = some (.cells #[.int .i64 m] 3 (0, 0)) := by rw [← hw1, ← World.size_alloc w (.cells #[.int .i64 time, .slice A ps.length c, .slice B gs.length d] 25)]; exact blk_new _ _
 obtain ⟨S0, hS0⟩ : ∃ S0, w.heap.size = S0 := ⟨_, rfl⟩
 rw [hS0] at hb1 hb2
 have HS0 := Lib.hid hS0
 have HW1 := Lib.hid hw1
 have HX1 := Lib.hid hx1
 have HB1 := Lib.hid hb1
 have HB2 := Lib.hid hb2
 have H2 := Lib.hid (h2.ext hx1)
 have H3 := Lib.hid (h3.ext hx1)
 have HP := Lib.hid hp
 have HG := Lib.hid hg
 have c1 := blk_cell hb1 1 _ rfl
 have hmf : ∀ (fn : Fn) (first cap : Array Value) (w : World), (Instr.makeFunc fn first cap).run Tryd.prog w = .ok (.func fn first cap) w := fun _ _ _ _ => rfl
 clear h2 h3 hx1 hb1 hb2 hw1 hS0 hp hg
 go_enter Tryd.func46, Tryd.ntmps46
 go_upto_region 1 with fail
 rw [HW1.out, HS0.out]
 go_wp2_with fail
 refine (hidx1_any A c ps m (S0 + 1) w1 H2.out (by have := HP.out; omega) (blk_cell HB2.out 0 _ rfl) (blk_lt HB2.out)).mono ?_
 rintro e w2 ⟨i, rfl, hi, hx2⟩
 have HX2 := Lib.hid hx2
 have hi' : i + 1 = Md.hasP ps m 1 ∧ -1 ≤ i ∧ i ≤ 10000 := by
  rcases hi with ⟨rfl, h⟩ | ⟨k, rfl, ⟨p, hk, hp⟩, h⟩
  · exact ⟨by rw [Md.hasP_no h]; rfl, by omega, by omega⟩
  · refine ⟨by rw [Md.hasP_at hk hp h]; omega, by omega, ?_⟩
    have := (List.getElem?_eq_some_iff.1 hk).1
    have := HP.out
    omega
 have HI := Lib.hid hi'.1
 have i1 := hi'.2.1
 have i2 := hi'.2.2
 have c1 := blk_cell (hx2.blk HB1.out) 2 _ rfl
 clear hi hx2 hi'
 go_wp2_with fail
 refine (hidx2_any B d gs m (S0 + 1) w2 (H3.out.ext HX2.out) (by have := HG.out; omega) (blk_cell (HX2.out.blk HB2.out) 0 _ rfl) (blk_lt (HX2.out.blk HB2.out))).mono ?_
 rintro e w3 ⟨j, rfl, hj, hx3⟩
 have X3 := Lib.hid (HX1.out.trans (HX2.out.trans hx3))
 have HX3 := Lib.hid hx3
 clear hx3
 rcases hj with ⟨rfl, h⟩ | ⟨k, rfl, ⟨g, hk, hg⟩, h⟩
 · have HGN := Lib.hid (Md.hasG_no h)
   clear h
   go_wp2
   go_ret2
   exact ⟨by rw [HGN.out, HI.out] <;> rfl, X3.out⟩
 · have HGN := Lib.hid (Md.hasG_at hk hg h)
   obtain ⟨b, o, hB, hb, hc⟩ := (H3.out.ext (HX2.out.trans HX3.out)).get hk
   have k0 := hc 0 _ rfl
   rw [Nat.add_zero] at k0
   have c2 : w3.cell? ⟨S0, 2, none⟩ = some (.slice (some ⟨b, o, none⟩) gs.length d) := by rw [← hB]; exact blk_cell (HX3.out.blk (HX2.out.blk HB1.out)) 2 _ rfl
   have k1 : (k : Int) < (gs.length : Int) := by have := (List.getElem?_eq_some_iff.1 hk).1; omega
   have k2 : (k : Int) < 100000 := by have := HG.out; omega
   have k3 : ¬ (k : Int) < 0 := by omega
   have HBE := Lib.hid hB
   have HBL := Lib.hid hb
   have HK0 := Lib.hid k0
   clear h hk hg hB hb hc c1 c2 k0
   go_simp
   go_upto_region 5 with fail
   refine region_rgx ([]) (w3) (by kernel_rfl) (by kernel_rfl) ?_ ?_ ?_
   · exact List.forall_mem_nil _
   · first | assumption | exact Ext.refl _
   iterate 2
    refine rg_pure (v := ?_) rfl (by kernel_rfl) (by kernel_rfl) (fun w hS hN => ?_) ?_
    rotate_left 1
    · clear hN
      go_simp
      refine givesP_mk ?_
      with_reducible rfl
   refine rg_pure (v := ?_) rfl (by kernel_rfl) (by kernel_rfl) (fun w hS hN => ?_) ?_
   rotate_left 1
   · have q1 := blk_cell (hS.blk (HX3.out.blk (HX2.out.blk HB1.out))) 2 _ rfl
     rw [HBE.out] at q1
     clear hN
     go_simp
     refine givesP_mk ?_
     with_reducible rfl
   iterate 3
    refine rg_pure (v := ?_) rfl (by kernel_rfl) (by kernel_rfl) (fun w hS hN => ?_) ?_
    rotate_left 1
    · clear hN
      go_simp
      refine givesP_mk ?_
      with_reducible rfl
   refine rg_pure (v := ?_) rfl (by kernel_rfl) (by kernel_rfl) (fun w hS hN => ?_) ?_
   rotate_left 1
   · have q1 : w.cell? ⟨b, o + k * 4, none⟩ = some (.int .i64 g.1) := (by rw [Below.cell (p := ⟨b, o + k * 4, none⟩) hS HBL.out]; exact HK0.out)
     clear hN
     go_simp
     refine givesP_mk ?_
     with_reducible rfl
   iterate 2
    refine rg_pure (v := ?_) rfl (by kernel_rfl) (by kernel_rfl) (fun w hS hN => ?_) ?_
    rotate_left 1
    · clear hN
      go_simp
      refine givesP_mk ?_
      with_reducible rfl
   refine rg_done rfl (Nat.le_of_ble_eq_true (by kernel_rfl)) ?_
   intro w8 hS hT
   have X8 := Lib.hid (X3.out.trans hS)
   clear hS hT
   go_simp
   go_wp2
   go_ret2
   exact ⟨by rw [HGN.out, HI.out] <;> rfl, X8.out⟩
def Uniq {α : Type} (f : α → Int) (l : List α) (m : Int) : Prop := ∀ (i j : Nat) a b, l[i]? = some a → l[j]? = some b → f a = m → f b = m → i = j
theorem uniq_of {α : Type} {f : α → Int} {m : Int} : ∀ {l : List α}, l.countP (fun a => f a == m) ≤ 1 → Uniq f l m
 | [], _ => fun i j a b h => by simp at h
 | x :: l, h => by
  rw [List.countP_cons] at h
  have ih : Uniq f l m := uniq_of (by omega)
  intro i j a b hi hj ha hb
  cases i with
  | zero =>
   cases j with
   | zero => rfl
   | succ j =>
    obtain rfl : x = a := by simpa using hi
    have hj' : l[j]? = some b := by simpa using hj
    have : 0 < l.countP (fun a => f a == m) := List.countP_pos_iff.2 ⟨b, List.mem_of_getElem? hj', by simpa using hb⟩
    rw [if_pos (by simpa using ha)] at h
    omega
  | succ i =>
   cases j with
   | zero =>
    obtain rfl : x = b := by simpa using hj
    have hi' : l[i]? = some a := by simpa using hi
    have : 0 < l.countP (fun a => f a == m) := List.countP_pos_iff.2 ⟨a, List.mem_of_getElem? hi', by simpa using ha⟩
    rw [if_pos (by simpa using hb)] at h
    omega
   | succ j => exact congrArg (· + 1) (ih i j a b (by simpa using hi) (by simpa using hj) ha hb)
theorem Md.uniq_may {x : Sn} (h : x.may = true) {m : Int} (hm : m ≠ 0) : Uniq (·.1) x.ps m ∧ Uniq (·.2.2.1) x.gs m := by
 have hi := (Sn.may_iff x).1 h
 refine ⟨uniq_of (hi.2.2.2.2.1 m hm), uniq_of ?_⟩
 have h2 := hi.2.2.2.2.2.2.2
 first | exact h2.1 m hm | exact h2.2 m hm | exact (h2 m hm)
theorem Md.hasP_u {l : List (Int × Int)} {m : Int} (hu : Uniq (·.1) l m) {k : Nat} {p : Int × Int} (hk : l[k]? = some p) (hp : p.1 = m) : Md.hasP l m 1 = (k : Int) + 1 := by
 rw [Md.hasP_at hk hp fun j q hq hj h => by have := hu j k q p hq hk h hp; omega]; omega
theorem Md.hasG_u {l : List Gs4} {m : Int} (hu : Uniq (·.2.2.1) l m) {k : Nat} {p : Gs4} (hk : l[k]? = some p) (hp : p.2.2.1 = m) : Md.hasG l m = p.1 :=
 Md.hasG_at hk hp fun j q hq hj h => by have := hu j k q p hq hk h hp; omega
theorem Md.fnd_at {g : Int} : ∀ {l : List Gs4} {k : Nat} {y : Gs4}, l[k]? = some y → y.1 = g → (∀ (j : Nat) z, l[j]? = some z → j < k → z.1 ≠ g) → Md.fnd l g = some k
 | [], _, _, h, _, _ => by simp at h
 | q :: l, 0, y, h, h1, h2 => by
  obtain rfl : q = y := by simpa using h
  unfold Md.fnd
  rw [if_pos h1]
 | q :: l, k + 1, y, h, h1, h2 => by
  unfold Md.fnd
  rw [if_neg (h2 0 q rfl (by omega)), Md.fnd_at (k := k) (y := y) (by simpa using h) h1 fun j r hr hj => h2 (j + 1) r (by simpa using hr) (by omega)]
  rfl
def Md.fidx (l : List Gs4) (g : Int) : Int := match Md.fnd l g with | some k => (k : Int) | none => -1
set_option maxRecDepth 100000 in
set_option maxHeartbeats 4000000 in
theorem rhave_any (v : Value) (x : Sn) (m : Int) (w : World) (hs : SnAt w v x) (hp : x.ps.length ≤ 10000) (hg : x.gs.length ≤ 10000) (hu : Uniq (·.1) x.ps m ∧ Uniq (·.2.2.1) x.gs m) (ra rb : Int) (hra : Md.hasP x.ps m 1 = ra) (hrb : Md.hasG x.gs m = rb) :
    Calls Tryd.prog 73 #[v, .int .i64 m] w fun e w' => e = .returned (.tuple #[.int .i64 ra, .int .i64 rb]) ∧ Ext w w' := by
 subst hra hrb
 obtain ⟨A, c, B, d, rfl, h2, h3⟩ := hs
 obtain ⟨time, ps, gs⟩ := x
 simp only at h2 h3 hp hg ⊢
 obtain ⟨w1, hw1⟩ : ∃ w1, (w.alloc (.cells #[.int .i64 time, .slice A ps.length c, .slice B gs.length d] 25)) = w1 := ⟨_, rfl⟩
 have hx1 : Ext w w1 := by rw [← hw1]; exact (Ext.refl w).alloc _
 have hb1 : w1.heap[w.heap.size]? = some (.cells #[.int .i64 time, .slice A ps.length c, .slice B gs.length d] 25 (0, 0)) := by rw [← hw1]; exact blk_new w _
 obtain ⟨S0, hS0⟩ : ∃ S0, w.heap.size = S0 := ⟨_, rfl⟩
 rw [hS0] at hb1
 have HS0 := Lib.hid hS0
 have HW1 := Lib.hid hw1
 have HX1 := Lib.hid hx1
 have HB1 := Lib.hid hb1
 have H2 := Lib.hid (h2.ext hx1)
 have H3 := Lib.hid (h3.ext hx1)
 have hp' : (ps.length : Int) ≤ 10000 := by omega
 have hg' : (gs.length : Int) ≤ 10000 := by omega
 clear h2 h3 hx1 hb1 hw1 hS0
 simp only at hu
 have HU := Lib.hid hu
 have c1 := blk_cell HB1.out 1 _ rfl
 have c2 := blk_cell HB1.out 2 _ rfl
 clear hu
 go_enter Tryd.func73, Tryd.ntmps73
 go_upto_region 1 with fail
 rw [HW1.out, HS0.out]
 go_wp2_with fail
 go_loop [6, 8] (fun pv iv => ∃ (k : Nat) (p : Int), k ≤ ps.length ∧ iv = .int .i64 k ∧ pv = .int .i64 p ∧ ((p = 0 ∧ ∀ (j : Nat) q, ps[j]? = some q → j < k → q.1 ≠ m) ∨ p = Md.hasP ps m 1)) (fun _ iv => ps.length - (intOf iv).toNat)
 case atStart => exact ⟨0, 0, by omega, rfl, rfl, .inl ⟨rfl, fun j q _ h => by omega⟩⟩
 case round =>
  obtain ⟨k, p, hk, rfl, rfl, hpk⟩ := hrel
  have HPK := Lib.hid hpk
  clear hpk
  by_cases hlt : k < ps.length
  · obtain ⟨q, hq⟩ : ∃ q, ps[k]? = some q := ⟨_, List.getElem?_eq_getElem hlt⟩
    obtain ⟨b, o, hA, hb, hc⟩ := H2.out.get hq
    subst hA
    have k0 := hc 0 _ rfl
    rw [Nat.add_zero] at k0
    have HQ := Lib.hid hq
    clear hc hb hq
    by_cases hm : q.1 = m
    · have h1 : (q.1 == m) = true := by simpa using hm
      have HE : Hid ((k : Int) + 1 = Md.hasP ps m 1) := Lib.hid (Md.hasP_u HU.out.1 HQ.out hm).symm
      clear hm
      go_wp2
      go_round
      case rel => exact ⟨k + 1, (k : Int) + 1, by omega, by go_num, rfl, .inr HE.out⟩
      case measure => simp [intOf]; omega
    · have h1 : (q.1 == m) = false := by simpa using hm
      have HN := Lib.hid hm
      clear hm
      go_wp2
      go_round
      case rel =>
       refine ⟨k + 1, p, by omega, by go_num, rfl, ?_⟩
       rcases HPK.out with ⟨h2, h3⟩ | h2
       · refine .inl ⟨h2, fun j z hz hj => ?_⟩
         by_cases hjk : j < k
         · exact h3 j z hz hjk
         · obtain rfl : j = k := by omega
           rw [HQ.out] at hz
           obtain rfl := Option.some.inj hz
           exact HN.out
       · exact .inr h2
      case measure => simp [intOf]; omega
  · obtain rfl : k = ps.length := by omega
    have HPE : Hid (p = Md.hasP ps m 1) := Lib.hid (by
     rcases HPK.out with ⟨h2, h3⟩ | h2
     · rw [h2, Md.hasP_no fun j q hq => h3 j q hq (List.getElem?_eq_some_iff.1 hq).1]
     · exact h2)
    clear hk
    go_wp2_with fail
    go_loop [7, 9] (fun pv iv => ∃ (k : Nat) (p : Int), k ≤ gs.length ∧ iv = .int .i64 k ∧ pv = .int .i64 p ∧ ((p = 0 ∧ ∀ (j : Nat) q, gs[j]? = some q → j < k → q.2.2.1 ≠ m) ∨ p = Md.hasG gs m)) (fun _ iv => gs.length - (intOf iv).toNat)
    case atStart => exact ⟨0, 0, by omega, rfl, rfl, .inl ⟨rfl, fun j q _ h => by omega⟩⟩
    case round =>
     obtain ⟨k, y, hk, rfl, rfl, hpk⟩ := hrel
     have HPK2 := Lib.hid hpk
     clear hpk
     by_cases hlt2 : k < gs.length
     · obtain ⟨q, hq⟩ : ∃ q, gs[k]? = some q := ⟨_, List.getElem?_eq_getElem hlt2⟩
       obtain ⟨b, o, hA, hb, hc⟩ := H3.out.get hq
       subst hA
       have k0 := hc 0 _ rfl
       have k2 := hc 2 _ rfl
       rw [Nat.add_zero] at k0
       have HQ := Lib.hid hq
       clear hc hb hq
       by_cases hm : q.2.2.1 = m
       · have h1 : (q.2.2.1 == m) = true := by simpa using hm
         have HE : Hid (q.1 = Md.hasG gs m) := Lib.hid (Md.hasG_u HU.out.2 HQ.out hm).symm
         clear hm
         go_wp2
         go_round
         case rel => exact ⟨k + 1, q.1, by omega, by go_num, rfl, .inr HE.out⟩
         case measure => simp [intOf]; omega
       · have h1 : (q.2.2.1 == m) = false := by simpa using hm
         have HN := Lib.hid hm
         clear hm
         go_wp2
         go_round
         case rel =>
          refine ⟨k + 1, y, by omega, by go_num, rfl, ?_⟩
          rcases HPK2.out with ⟨h2, h3⟩ | h2
          · refine .inl ⟨h2, fun j z hz hj => ?_⟩
            by_cases hjk : j < k
            · exact h3 j z hz hjk
            · obtain rfl : j = k := by omega
              rw [HQ.out] at hz
              obtain rfl := Option.some.inj hz
              exact HN.out
          · exact .inr h2
         case measure => simp [intOf]; omega
     · obtain rfl : k = gs.length := by omega
       have HGE : Hid (y = Md.hasG gs m) := Lib.hid (by
        rcases HPK2.out with ⟨h2, h3⟩ | h2
        · rw [h2, Md.hasG_no fun j q hq => h3 j q hq (List.getElem?_eq_some_iff.1 hq).1]
        · exact h2)
       go_wp2
       go_ret2
       exact ⟨by rw [← HPE.out, ← HGE.out] <;> rfl, HX1.out⟩
set_option maxRecDepth 100000 in
set_option maxHeartbeats 4000000 in
theorem rfind_any (v : Value) (x : Sn) (g : Int) (w : World) (hs : SnAt w v x) (hp : x.ps.length ≤ 10000) (hg : x.gs.length ≤ 10000) (r : Int) (hr : Md.fidx x.gs g = r) :
    Calls Tryd.prog 35 #[v, .int .i64 g] w fun e w' => e = .returned (.int .i64 r) ∧ Ext w w' := by
 subst hr
 obtain ⟨A, c, B, d, rfl, h2, h3⟩ := hs
 obtain ⟨time, ps, gs⟩ := x
 simp only at h2 h3 hp hg ⊢
 obtain ⟨w1, hw1⟩ : ∃ w1, (w.alloc (.cells #[.int .i64 time, .slice A ps.length c, .slice B gs.length d] 25)) = w1 := ⟨_, rfl⟩
 have hx1 : Ext w w1 := by rw [← hw1]; exact (Ext.refl w).alloc _
 have hb1 : w1.heap[w.heap.size]? = some (.cells #[.int .i64 time, .slice A ps.length c, .slice B gs.length d] 25 (0, 0)) := by rw [← hw1]; exact blk_new w _
 obtain ⟨S0, hS0⟩ : ∃ S0, w.heap.size = S0 := ⟨_, rfl⟩
 rw [hS0] at hb1
 have HS0 := Lib.hid hS0
 have HW1 := Lib.hid hw1
 have HX1 := Lib.hid hx1
 have HB1 := Lib.hid hb1
 have H2 := Lib.hid (h2.ext hx1)
 have H3 := Lib.hid (h3.ext hx1)
 have hp' : (ps.length : Int) ≤ 10000 := by omega
 have hg' : (gs.length : Int) ≤ 10000 := by omega
 clear h2 h3 hx1 hb1 hw1 hS0
 have c2 := blk_cell HB1.out 2 _ rfl
 go_enter Tryd.func35, Tryd.ntmps35
 go_upto_region 1 with fail
 rw [HW1.out, HS0.out]
 go_wp2_with fail
 go_loop [5] (fun iv => ∃ (k : Nat), k ≤ gs.length ∧ iv = .int .i64 k ∧ (∀ (j : Nat) q, gs[j]? = some q → j < k → q.1 ≠ g)) (fun iv => gs.length - (intOf iv).toNat)
 case atStart => exact ⟨0, by omega, rfl, fun j q _ h => by omega⟩
 case round =>
  obtain ⟨k, hk, rfl, hpk⟩ := hrel
  have HPK := Lib.hid hpk
  clear hpk
  by_cases hlt : k < gs.length
  · obtain ⟨q, hq⟩ : ∃ q, gs[k]? = some q := ⟨_, List.getElem?_eq_getElem hlt⟩
    obtain ⟨b, o, hA, hb, hc⟩ := H3.out.get hq
    subst hA
    have k0 := hc 0 _ rfl
    rw [Nat.add_zero] at k0
    have HQ := Lib.hid hq
    clear hc hb hq
    by_cases hm : q.1 = g
    · have h1 : (q.1 == g) = true := by simpa using hm
      have HE : Hid ((k : Int) = Md.fidx gs g) := Lib.hid (by unfold Md.fidx; rw [Md.fnd_at HQ.out hm HPK.out])
      clear hm
      go_wp2
      go_ret
      exact ⟨by rw [← HE.out] <;> rfl, HX1.out⟩
    · have h1 : (q.1 == g) = false := by simpa using hm
      have HN := Lib.hid hm
      clear hm
      go_wp2
      go_round
      case rel =>
       refine ⟨k + 1, by omega, by go_num, fun j z hz hj => ?_⟩
       by_cases hjk : j < k
       · exact HPK.out j z hz hjk
       · obtain rfl : j = k := by omega
         rw [HQ.out] at hz
         obtain rfl := Option.some.inj hz
         exact HN.out
      case measure => simp [intOf]; omega
  · obtain rfl : k = gs.length := by omega
    have HE : Hid (-1 = Md.fidx gs g) := Lib.hid (by
     unfold Md.fidx
     rw [Md.fnd_none.2 fun y hy => by
      obtain ⟨j, hj⟩ := List.mem_iff_getElem?.1 hy
      exact HPK.out j y hj (List.getElem?_eq_some_iff.1 hj).1])
    go_wp2
    go_ret
    exact ⟨by rw [← HE.out] <;> rfl, HX1.out⟩
theorem setCells_mid {g : Nat} {T : TypeId} : ∀ (ds : List Value) (w : World) (cs : Array Value) (i : Nat), w.heap[g]? = some (.cells cs T (0, 0)) → i + ds.length ≤ cs.size → ∃ cs', (w.setCells g i ds).heap[g]? = some (.cells cs' T (0, 0)) ∧ cs'.size = cs.size ∧ ∀ j, cs'[j]? = if i ≤ j ∧ j < i + ds.length then ds[j - i]? else cs[j]?
 | [], w, cs, i, h, _ => ⟨cs, h, rfl, fun j => by rw [if_neg (by simp <;> omega)]⟩
 | d :: ds, w, cs, i, h, hl => by
  simp only [List.length_cons] at hl
  obtain ⟨cs', h1, h2, h3⟩ := setCells_mid ds (w.setCell ⟨g, i, none⟩ d) (cs.setIfInBounds i d) (i + 1) (blk_set h i d) (by simp; omega)
  refine ⟨cs', h1, by simpa using h2, fun j => ?_⟩
  rw [h3 j, List.length_cons]
  by_cases hj : j = i
  · subst hj
    rw [if_neg (by omega), if_pos (by omega), Nat.sub_self, List.getElem?_cons_zero, Array.getElem?_setIfInBounds_self_of_lt (by omega)]
  · by_cases hin : i + 1 ≤ j ∧ j < i + 1 + ds.length
    · rw [if_pos hin, if_pos (by omega), show j - i = (j - (i + 1)) + 1 by omega, List.getElem?_cons_succ]
    · rw [if_neg hin, if_neg (by omega), Array.getElem?_setIfInBounds_ne (Ne.symm hj)]
theorem OwnRows.setCells {α : Type} {e : TypeId} {m : Nat} {f : α → List Value} {w : World} {B : Nat} {v : Value} {xs : List α} (hf : ∀ x, (f x).length = m) (h : OwnRows e m f w B v xs) {i : Nat} {x x' : α} (hi : xs[i]? = some x) {j : Nat} {ds : List Value} (hj : j + ds.length ≤ m)
    (hx : ∀ t, t < m → (f x')[t]? = if j ≤ t ∧ t < j + ds.length then ds[t - j]? else (f x)[t]?) :
    ∃ g c, v = .slice (some ⟨g, 0, none⟩) xs.length c ∧ v.ownBlock = some g ∧ B ≤ g ∧ g < w.heap.size ∧ w.there g (i * m + j) ds.length ∧ OwnRows e m f (w.setCells g (i * m + j) ds) B v (xs.set i x') ∧ Upd g w (w.setCells g (i * m + j) ds) := by
 have hil := (List.getElem?_eq_some_iff.1 hi).1
 rcases h.2 with ⟨_, h0⟩ | ⟨g, cap, cur, rfl, hb, hg, hnc, hcm, hcs, htake⟩
 · omega
 · have hlt : i * m + j + ds.length ≤ cur.size := by
    have h1 : (i + 1) * m ≤ cap * m := Nat.mul_le_mul_right _ (by omega)
    rw [Nat.add_mul] at h1
    rw [hcs]
    omega
   obtain ⟨cs', h1, h2, h3⟩ := setCells_mid ds w cur (i * m + j) hg hlt
   refine ⟨g, cap, rfl, rfl, hb, blk_lt hg, fun k hk => ⟨?_, frozen_of_row _ _ _ _ _ hg⟩, ⟨?_, .inr ⟨g, cap, cs', ?_, hb, h1, ?_, hcm, h2.trans hcs, ?_⟩⟩, setCells_upd _ _ _ _⟩
   · rw [blk_cell hg _ _ (Array.getElem?_eq_getElem (by omega))]; rfl
   · rw [flatMap_len hf]
   · rw [List.length_set]
   · rw [List.length_set]; exact hnc
   · rw [List.length_set]
     apply List.ext_getElem?
     intro t
     by_cases ht : t < xs.length * m
     · have hm : 0 < m := Nat.pos_of_ne_zero fun e => by subst e; omega
       have hq : t / m < xs.length := Nat.div_lt_of_lt_mul (by rw [Nat.mul_comm]; exact ht)
       have hr : t % m < m := Nat.mod_lt _ hm
       have hjj : t / m * m + t % m = t := by rw [Nat.mul_comm]; exact Nat.div_add_mod t m
       have key : ∀ (y : α), (xs.set i x')[t / m]? = some y → ((xs.set i x').flatMap f)[t]? = (f y)[t % m]? := fun y hy => by
        have := flatMap_get hf (xs.set i x') (t / m) y hy (t % m) _ (List.getElem?_eq_getElem (by rw [hf]; exact hr))
        rw [hjj] at this
        rw [this, List.getElem?_eq_getElem (by rw [hf]; exact hr)]
       have key0 : ∀ (y : α), xs[t / m]? = some y → cur.toList[t]? = (f y)[t % m]? := fun y hy => by
        have := flatMap_get hf xs (t / m) y hy (t % m) _ (List.getElem?_eq_getElem (by rw [hf]; exact hr))
        rw [hjj, ← htake, List.getElem?_take, if_pos ht] at this
        rw [this, List.getElem?_eq_getElem (by rw [hf]; exact hr)]
       rw [List.getElem?_take, if_pos ht, Array.getElem?_toList, h3 t]
       by_cases hqi : t / m = i
       · subst hqi
         rw [key x' (List.getElem?_set_self hq), hx _ hr, ← key0 x hi]
         by_cases hin : j ≤ t % m ∧ t % m < j + ds.length
         · rw [if_pos hin, if_pos (by omega), show t - (t / m * m + j) = t % m - j by omega]
         · rw [if_neg hin, if_neg (by omega), Array.getElem?_toList]
       · have hout : ¬ (i * m + j ≤ t ∧ t < i * m + j + ds.length) := by
          rcases Nat.lt_or_gt_of_ne hqi with hl | hl
          · have h1 : (t / m + 1) * m ≤ i * m := Nat.mul_le_mul_right _ hl
            rw [Nat.add_mul] at h1
            omega
          · have h1 : (i + 1) * m ≤ t / m * m := Nat.mul_le_mul_right _ hl
            rw [Nat.add_mul] at h1
            omega
         rw [if_neg hout, key _ ((List.getElem?_set_ne (Ne.symm hqi)).trans (List.getElem?_eq_getElem hq)), ← key0 _ (List.getElem?_eq_getElem hq), Array.getElem?_toList]
     · rw [List.getElem?_take, if_neg ht, List.getElem?_eq_none (by rw [flatMap_len hf, List.length_set]; omega)]
theorem OwnRows.setCell {α : Type} {e : TypeId} {m : Nat} {f : α → List Value} {w : World} {B : Nat} {v : Value} {xs : List α} (hf : ∀ x, (f x).length = m) (h : OwnRows e m f w B v xs) {i : Nat} {x x' : α} (hi : xs[i]? = some x) {j : Nat} {d : Value} (hj : j < m)
    (hx : f x' = (f x).set j d) :
    ∃ g c, v = .slice (some ⟨g, 0, none⟩) xs.length c ∧ v.ownBlock = some g ∧ B ≤ g ∧ g < w.heap.size ∧ w.there g (i * m + j) 1 ∧ OwnRows e m f (w.setCell ⟨g, i * m + j, none⟩ d) B v (xs.set i x') ∧ Upd g w (w.setCell ⟨g, i * m + j, none⟩ d) :=
 OwnRows.setCells hf h hi (ds := [d]) (by simp only [List.length_singleton]; omega) (fun t ht => by
  rw [hx]
  by_cases htj : t = j
  · subst htj
    rw [List.getElem?_set_self (by rw [hf]; exact ht), if_pos (by simp), Nat.sub_self]
    rfl
  · rw [List.getElem?_set_ne (Ne.symm htj), if_neg (by simp; omega)])
theorem Tryd.infoPS : (Tryd.prog.info? 61).map (fun i => (i.zero, i.size, i.bytes)) = some (some (.agg #[.int .i64 0, .int .i64 0]), 2, 16) := by kernel_rfl
theorem Tryd.infoGS : (Tryd.prog.info? 49).map (fun i => (i.zero, i.size, i.bytes)) = some (some (.agg #[.int .i64 0, .int .i64 0, .int .i64 0, .int .i64 0]), 4, 32) := by kernel_rfl
theorem snPCells_len (x : Int × Int) : (snPCells x).length = 2 := rfl
theorem snPCells_one (x : Int × Int) : ∀ u ∈ snPCells x, u.oneCell' = true := by intro u hu; simp [snPCells] at hu; rcases hu with rfl | rfl <;> rfl
theorem snGCells_len (x : Gs4) : (snGCells x).length = 4 := rfl
theorem snGCells_one (x : Gs4) : ∀ u ∈ snGCells x, u.oneCell' = true := by intro u hu; simp [snGCells] at hu; rcases hu with rfl | rfl | rfl | rfl <;> rfl
set_option maxRecDepth 100000 in
set_option maxHeartbeats 1000000 in
theorem cloneGS_any (v : Value) (xs : List Gs4) (w : World) (hR : RowsAt 4 snGCells w v xs) (hn : xs.length ≤ 1000000) : Calls Tryd.prog 48 #[v] w fun e w' => ∃ u, e = .returned u ∧ OwnRows 49 4 snGCells w' w.heap.size u xs ∧ Ext w w' := by
 obtain ⟨i0, I0, I1, I2, I3⟩ := info_parts Tryd.infoGS
 obtain ⟨A, c, rfl, hc⟩ := hR.form
 cases A with
 | none =>
  have h0 : xs = [] := by
   obtain ⟨A', c', hv, _, hA⟩ := hR
   simp only [Value.slice.injEq] at hv
   cases xs with
   | nil => rfl
   | cons x xs => obtain ⟨b, o, hb, _⟩ := hA (by simp); rw [hb] at hv; simp at hv
  subst h0
  have hnil := fun (wx : World) (a : Option Addr) (n c : Nat) => Lib.run_eql_slice_nil (P := Tryd.prog) wx 23 49 a n c 0 0 Tryd.underlying23
  clear hR I0 I1 I2 I3
  go_enter Tryd.func48, Tryd.ntmps48
  go_wp2
  go_ret
  exact ⟨_, rfl, OwnRows.nil w _, Ext.refl _⟩
 | some a =>
  have hmade : OwnRows 49 4 snGCells (w.alloc (.cells #[] 49)) w.heap.size (.slice (some ⟨w.heap.size, 0, none⟩) 0 0) [] := World.ownsRow_made (base := w.heap.size) (e := 49) (size := 4) w #[] 0 (Nat.le_refl _) (by decide) rfl
  obtain ⟨u, w1, hr, ho, hg⟩ := OwnRows.append (P := Tryd.prog) (e := 49) (m := 4) (f := snGCells) (xs := []) 23 Tryd.underlying23 I0 I1 I2 I3 rfl (by decide) snGCells_len snGCells_one hmade (hR.ext ((Ext.refl w).alloc _)) (by simp [maxLen]; omega) (by simp; omega) (by simp)
  have HR := Lib.hid hr
  have HO := Lib.hid ho
  have HX : Hid (Ext w w1) := Lib.hid (OwnRows.grown (W := w) hmade ((Ext.refl w).alloc _) hg)
  have hnil := fun (wx : World) (a : Option Addr) (n c : Nat) => Lib.run_eql_slice_nil (P := Tryd.prog) wx 23 49 a n c 0 0 Tryd.underlying23
  clear hr ho hg hmade hR I0 I1 I2 I3
  go_enter Tryd.func48, Tryd.ntmps48
  go_wp2_with (at_builtin; refine wpList_append_run rfl _ _ 23 rfl _ _ rfl rfl HR.out ?_)
  go_ret
  exact ⟨_, rfl, HO.out, HX.out⟩
set_option maxRecDepth 100000 in
set_option maxHeartbeats 1000000 in
theorem clonePS_any (v : Value) (xs : List (Int × Int)) (w : World) (hR : RowsAt 2 snPCells w v xs) (hn : xs.length ≤ 1000000) : Calls Tryd.prog 47 #[v] w fun e w' => ∃ u, e = .returned u ∧ OwnRows 61 2 snPCells w' w.heap.size u xs ∧ Ext w w' := by
 obtain ⟨i0, I0, I1, I2, I3⟩ := info_parts Tryd.infoPS
 obtain ⟨A, c, rfl, hc⟩ := hR.form
 cases A with
 | none =>
  have h0 : xs = [] := by
   obtain ⟨A', c', hv, _, hA⟩ := hR
   simp only [Value.slice.injEq] at hv
   cases xs with
   | nil => rfl
   | cons x xs => obtain ⟨b, o, hb, _⟩ := hA (by simp); rw [hb] at hv; simp at hv
  subst h0
  have hnil := fun (wx : World) (a : Option Addr) (n c : Nat) => Lib.run_eql_slice_nil (P := Tryd.prog) wx 22 61 a n c 0 0 Tryd.underlying22
  clear hR I0 I1 I2 I3
  go_enter Tryd.func47, Tryd.ntmps47
  go_wp2
  go_ret
  exact ⟨_, rfl, OwnRows.nil w _, Ext.refl _⟩
 | some a =>
  have hmade : OwnRows 61 2 snPCells (w.alloc (.cells #[] 61)) w.heap.size (.slice (some ⟨w.heap.size, 0, none⟩) 0 0) [] := World.ownsRow_made (base := w.heap.size) (e := 61) (size := 2) w #[] 0 (Nat.le_refl _) (by decide) rfl
  obtain ⟨u, w1, hr, ho, hg⟩ := OwnRows.append (P := Tryd.prog) (e := 61) (m := 2) (f := snPCells) (xs := []) 22 Tryd.underlying22 I0 I1 I2 I3 rfl (by decide) snPCells_len snPCells_one hmade (hR.ext ((Ext.refl w).alloc _)) (by simp [maxLen]; omega) (by simp; omega) (by simp)
  have HR := Lib.hid hr
  have HO := Lib.hid ho
  have HX : Hid (Ext w w1) := Lib.hid (OwnRows.grown (W := w) hmade ((Ext.refl w).alloc _) hg)
  have hnil := fun (wx : World) (a : Option Addr) (n c : Nat) => Lib.run_eql_slice_nil (P := Tryd.prog) wx 22 61 a n c 0 0 Tryd.underlying22
  clear hr ho hg hmade hR I0 I1 I2 I3
  go_enter Tryd.func47, Tryd.ntmps47
  go_wp2_with (at_builtin; refine wpList_append_run rfl _ _ 22 rfl _ _ rfl rfl HR.out ?_)
  go_ret
  exact ⟨_, rfl, HO.out, HX.out⟩
set_option maxRecDepth 100000 in
set_option maxHeartbeats 4000000 in
theorem rstatus_any (v : Value) (x : Sn) (g : Int) (w : World) (hs : SnAt w v x) (hp : x.ps.length ≤ 10000) (hg : x.gs.length ≤ 10000) (r1 r2 : Int) (hr : Md.stat x.gs g = (r1, r2)) :
    Calls Tryd.prog 74 #[v, .int .i64 g] w fun e w' => e = .returned (.tuple #[.int .i64 r1, .int .i64 r2]) ∧ Ext w w' := by
 obtain ⟨A, c, B, d, rfl, h2, h3⟩ := hs
 obtain ⟨time, ps, gs⟩ := x
 simp only at h2 h3 hp hg ⊢
 obtain ⟨w1, hw1⟩ : ∃ w1, (w.alloc (.cells #[.int .i64 time, .slice A ps.length c, .slice B gs.length d] 25)) = w1 := ⟨_, rfl⟩
 have hx1 : Ext w w1 := by rw [← hw1]; exact (Ext.refl w).alloc _
 have hb1 : w1.heap[w.heap.size]? = some (.cells #[.int .i64 time, .slice A ps.length c, .slice B gs.length d] 25 (0, 0)) := by rw [← hw1]; exact blk_new w _
 obtain ⟨S0, hS0⟩ : ∃ S0, w.heap.size = S0 := ⟨_, rfl⟩
 rw [hS0] at hb1
 have HS0 := Lib.hid hS0
 have HW1 := Lib.hid hw1
 have HX1 := Lib.hid hx1
 have HB1 := Lib.hid hb1
 have H2 := Lib.hid (h2.ext hx1)
 have H3 := Lib.hid (h3.ext hx1)
 have hp' : (ps.length : Int) ≤ 10000 := by omega
 have hg' : (gs.length : Int) ≤ 10000 := by omega
 clear h2 h3 hx1 hb1 hw1 hS0
 have HR := Lib.hid hr
 have HP := Lib.hid hp
 have HG := Lib.hid hg
 clear hr hp hg
 have c0 := blk_cell HB1.out 0 _ rfl
 have c1 := blk_cell HB1.out 1 _ rfl
 have c2 := blk_cell HB1.out 2 _ rfl
 go_enter Tryd.func74, Tryd.ntmps74
 go_upto_region 1 with fail
 rw [HW1.out, HS0.out]
 go_wp2_with fail
 refine (rfind_any _ ⟨time, ps, gs⟩ g w1 ⟨A, c, B, d, rfl, H2.out, H3.out⟩ HP.out HG.out _ rfl).mono ?_
 rintro e w2 ⟨rfl, hx2⟩
 have HX2 := Lib.hid hx2
 clear hx2 c0 c1 c2
 unfold Md.fidx
 simp only
 cases hf : Md.fnd gs g with
 | none =>
  have hrr := HR.out
  unfold Md.stat at hrr
  simp only [hf] at hrr
  obtain ⟨rfl, rfl⟩ := Prod.mk.inj hrr
  clear hf hrr
  have X2 := Lib.hid (HX1.out.trans HX2.out)
  go_wp2
  go_ret2
  exact ⟨rfl, X2.out⟩
 | some k =>
  have hrr := HR.out
  unfold Md.stat at hrr
  simp only [hf] at hrr
  obtain ⟨y, hy, -, -⟩ := Md.fnd_some hf
  rw [List.getD, hy] at hrr
  simp only [Option.getD_some] at hrr
  obtain ⟨e1, e2⟩ := Prod.mk.inj hrr
  obtain ⟨b, o, hB, hb, hc⟩ := H3.out.get hy
  have k1 := hc 1 _ rfl
  have k3 := hc 3 _ rfl
  rw [e1] at k1
  rw [e2] at k3
  have HK1 := Lib.hid k1
  have HK3 := Lib.hid k3
  have HBE := Lib.hid hB
  have HBL := Lib.hid hb
  have l1 : (k : Int) < (gs.length : Int) := by have := (List.getElem?_eq_some_iff.1 hy).1; omega
  have l2 : (k : Int) < 100000 := by omega
  have l3 : ¬ (k : Int) < 0 := by omega
  have X2 := Lib.hid (HX1.out.trans HX2.out)
  clear hf hrr hy e1 e2 hB hb hc k1 k3
  go_simp
  go_upto_region 4 with fail
  refine region_rgx ([]) (w2) (by kernel_rfl) (by kernel_rfl) ?_ ?_ ?_
  · exact List.forall_mem_nil _
  · first | assumption | exact Ext.refl _
  refine rg_pure (v := ?_) rfl (by kernel_rfl) (by kernel_rfl) (fun w hS hN => ?_) ?_
  rotate_left 1
  · clear hN
    go_simp
    refine givesP_mk ?_
    with_reducible rfl
  refine rg_pure (v := ?_) rfl (by kernel_rfl) (by kernel_rfl) (fun w hS hN => ?_) ?_
  rotate_left 1
  · have q1 := blk_cell (hS.blk (HX2.out.blk HB1.out)) 2 _ rfl
    rw [HBE.out] at q1
    clear hN
    go_simp
    refine givesP_mk ?_
    with_reducible rfl
  iterate 3
   refine rg_pure (v := ?_) rfl (by kernel_rfl) (by kernel_rfl) (fun w hS hN => ?_) ?_
   rotate_left 1
   · clear hN
     go_simp
     refine givesP_mk ?_
     with_reducible rfl
  refine rg_pure (v := ?_) rfl (by kernel_rfl) (by kernel_rfl) (fun w hS hN => ?_) ?_
  rotate_left 1
  · have q1 : w.cell? ⟨b, o + k * 4 + 1, none⟩ = some (.int .i64 r1) := (by rw [Below.cell (p := ⟨b, o + k * 4 + 1, none⟩) (HX2.out.trans hS) HBL.out]; exact HK1.out)
    clear hN
    go_simp
    refine givesP_mk ?_
    with_reducible rfl
  refine rg_pure (v := ?_) rfl (by kernel_rfl) (by kernel_rfl) (fun w hS hN => ?_) ?_
  rotate_left 1
  · clear hN
    go_simp
    refine givesP_mk ?_
    with_reducible rfl
  refine rg_pure (v := ?_) rfl (by kernel_rfl) (by kernel_rfl) (fun w hS hN => ?_) ?_
  rotate_left 1
  · have q1 := blk_cell (hS.blk (HX2.out.blk HB1.out)) 2 _ rfl
    rw [HBE.out] at q1
    clear hN
    go_simp
    refine givesP_mk ?_
    with_reducible rfl
  iterate 3
   refine rg_pure (v := ?_) rfl (by kernel_rfl) (by kernel_rfl) (fun w hS hN => ?_) ?_
   rotate_left 1
   · clear hN
     go_simp
     refine givesP_mk ?_
     with_reducible rfl
  refine rg_pure (v := ?_) rfl (by kernel_rfl) (by kernel_rfl) (fun w hS hN => ?_) ?_
  rotate_left 1
  · have q1 : w.cell? ⟨b, o + k * 4 + 3, none⟩ = some (.int .i64 r2) := (by rw [Below.cell (p := ⟨b, o + k * 4 + 3, none⟩) (HX2.out.trans hS) HBL.out]; exact HK3.out)
    clear hN
    go_simp
    refine givesP_mk ?_
    with_reducible rfl
  iterate 2
   refine rg_pure (v := ?_) rfl (by kernel_rfl) (by kernel_rfl) (fun w hS hN => ?_) ?_
   rotate_left 1
   · clear hN
     go_simp
     refine givesP_mk ?_
     with_reducible rfl
  refine rg_done rfl (Nat.le_of_ble_eq_true (by kernel_rfl)) ?_
  intro w8 hS hT
  have X8 := Lib.hid (X2.out.trans hS)
  clear hS hT
  go_simp
  go_wp2
  go_ret2
  exact ⟨rfl, X8.out⟩
set_option maxRecDepth 100000 in
set_option maxHeartbeats 4000000 in
theorem rfree_any (v : Value) (x : Sn) (p s : Int) (w : World) (hs : SnAt w v x) (hp : x.ps.length ≤ 10000) (hg : x.gs.length ≤ 10000) (r : Bool) (hr : Md.free x.ps p s = r) :
    Calls Tryd.prog 75 #[v, .int .i64 p, .int .i64 s] w fun e w' => e = .returned (.bool r) ∧ Ext w w' := by
 obtain ⟨A, c, B, d, rfl, h2, h3⟩ := hs
 obtain ⟨time, ps, gs⟩ := x
 simp only at h2 h3 hp hg ⊢
 obtain ⟨w1, hw1⟩ : ∃ w1, (w.alloc (.cells #[.int .i64 time, .slice A ps.length c, .slice B gs.length d] 25)) = w1 := ⟨_, rfl⟩
 have hx1 : Ext w w1 := by rw [← hw1]; exact (Ext.refl w).alloc _
 have hb1 : w1.heap[w.heap.size]? = some (.cells #[.int .i64 time, .slice A ps.length c, .slice B gs.length d] 25 (0, 0)) := by rw [← hw1]; exact blk_new w _
 obtain ⟨S0, hS0⟩ : ∃ S0, w.heap.size = S0 := ⟨_, rfl⟩
 rw [hS0] at hb1
 have HS0 := Lib.hid hS0
 have HW1 := Lib.hid hw1
 have HX1 := Lib.hid hx1
 have HB1 := Lib.hid hb1
 have H2 := Lib.hid (h2.ext hx1)
 have H3 := Lib.hid (h3.ext hx1)
 have hp' : (ps.length : Int) ≤ 10000 := by omega
 have hg' : (gs.length : Int) ≤ 10000 := by omega
 clear h2 h3 hx1 hb1 hw1 hS0
 simp only at hr
 have HR := Lib.hid hr
 have c1 := blk_cell HB1.out 1 _ rfl
 clear hr
 go_enter Tryd.func75, Tryd.ntmps75
 go_upto_region 1 with fail
 rw [HW1.out, HS0.out]
 by_cases a1 : p < 1
 · have HF : Hid (r = false) := Lib.hid (by rw [← HR.out]; unfold Md.free; rw [decide_eq_false (by omega)]; rfl)
   obtain rfl := HF.out
   go_wp2
   go_ret
   exact ⟨rfl, HX1.out⟩
 by_cases a2 : (ps.length : Int) < p
 · have HF : Hid (r = false) := Lib.hid (by rw [← HR.out]; unfold Md.free; rw [decide_eq_false (by omega)]; rfl)
   obtain rfl := HF.out
   go_wp2
   go_ret
   exact ⟨rfl, HX1.out⟩
 obtain ⟨k, rfl⟩ : ∃ k : Nat, p = (k : Int) + 1 := ⟨(p - 1).toNat, by omega⟩
 obtain ⟨⟨qm, qs⟩, hq⟩ : ∃ q, ps[k]? = some q := ⟨_, List.getElem?_eq_getElem (by omega)⟩
 have hrr := HR.out
 unfold Md.free at hrr
 rw [show ((k : Int) + 1 - 1).toNat = k by omega, List.getD, hq, decide_eq_true (show 1 ≤ (k : Int) + 1 ∧ (k : Int) + 1 ≤ (ps.length : Int) by omega), Bool.true_and] at hrr
 simp only [Option.getD_some, Prod.mk.injEq] at hrr
 have HRR := Lib.hid hrr
 obtain ⟨b, o, hA, hb, hc⟩ := H2.out.get hq
 have k0 := hc 0 _ rfl
 have k1 := hc 1 _ rfl
 rw [Nat.add_zero] at k0
 subst hA
 have l1 : (k : Int) < (ps.length : Int) := by omega
 have l2 : (k : Int) < 100000 := by omega
 have l3 : (k : Int) + 1 - 1 = (k : Int) := by omega
 have d1 : decide ((k : Int) + 1 < 1) = false := decide_eq_false (by omega)
 have d2 : decide ((ps.length : Int) < (k : Int) + 1) = false := decide_eq_false (by omega)
 clear hq hrr hb hc a1 a2
 by_cases b1 : qm = 0
 · have e1 : (qm == 0) = true := by simpa using b1
   by_cases b2 : qs = s
   · have e2 : (qs == s) = true := by simpa using b2
     have HF : Hid (r = true) := Lib.hid (by rw [← HRR.out]; exact decide_eq_true ⟨b1, b2⟩)
     obtain rfl := HF.out
     clear b1 b2
     go_wp2
     go_ret
     exact ⟨rfl, HX1.out⟩
   · have e2 : (qs == s) = false := by simpa using b2
     have HF : Hid (r = false) := Lib.hid (by rw [← HRR.out]; exact decide_eq_false fun h => b2 h.2)
     obtain rfl := HF.out
     clear b1 b2
     go_wp2
     go_ret
     exact ⟨rfl, HX1.out⟩
 · have e1 : (qm == 0) = false := by simpa using b1
   have HF : Hid (r = false) := Lib.hid (by rw [← HRR.out]; exact decide_eq_false fun h => b1 h.1)
   obtain rfl := HF.out
   clear b1
   go_wp2
   go_ret
   exact ⟨rfl, HX1.out⟩
def SnRet (w : World) (y : Sn) (e : Ending) (w' : World) : Prop := ∃ u, e = .returned u ∧ SnAt w' u y ∧ Ext w w'
theorem wpList_store_rowN {P : Program} {ops : Array Oper} {rest : List Oper} {op : Oper} {a : Act} {w : World} {Q : Exit → Act → World → Prop} (hgd : op.guard = none) (ty : TypeId) (x y : Operand) (ho : op.op = .store ty x y)
    (b o : Nat) (ds : List Value) (v : Value) (hx : a.eval x = .pointer (some ⟨b, o, none⟩)) (hy : a.eval y = v) (hv : v = .agg ds.toArray) (ht : w.there b o ds.length) (hi : (P.info? ty).map (·.size) = some ds.length) (h1 : ∀ u ∈ ds, u.oneCell' = true)
    {w' : World} (hw : w.setCells b o ds = w') (h : wpList P ops Q rest (a.put op.dst undef) w') : wpList P ops Q (op :: rest) a w := by
 subst hv hw
 exact wpList_store_mid hgd ty x y ho b o ds.toArray hx hy (by simpa using ht) (by simpa using hi) (all_oneCell_toArray h1) (by simpa using h)
theorem sn3_one (t : Int) (u v : Value) (hu : u.oneCell' = true) (hv : v.oneCell' = true) : ∀ x ∈ [Value.int .i64 t, u, v], x.oneCell' = true := by
 intro x hx
 simp only [List.mem_cons, List.not_mem_nil, or_false] at hx
 rcases hx with rfl | rfl | rfl
 · rfl
 · exact hu
 · exact hv
theorem sn_two {w1 w4 : World} {S0 R0 : Nat} {cs zs ls : List Value} {T : TypeId} (hx : Ext w1 w4) (hb : w1.heap[S0]? = some (.cells cs.toArray T (0, 0))) (hz : w1.heap[R0]? = some (.cells zs.toArray T (0, 0))) (hne : S0 ≠ R0) (i : Nat) (u : Value) (hls : cs.set i u = ls) (hl : zs.length = ls.length) :
    (w4.setCell ⟨S0, i, none⟩ u).heap[S0]? = some (.cells ls.toArray T (0, 0)) ∧ (w4.setCell ⟨S0, i, none⟩ u).there R0 0 ls.length ∧ ((w4.setCell ⟨S0, i, none⟩ u).setCells R0 0 ls).heap[R0]? = some (.cells ls.toArray T (0, 0)) ∧ But (fun b => b = S0 ∨ b = R0) w4 ((w4.setCell ⟨S0, i, none⟩ u).setCells R0 0 ls) := by
 have h4 := hx.blk hb
 have z4 := hx.blk hz
 have h5 := blk_set h4 i u
 have e : cs.toArray.setIfInBounds i u = ls.toArray := by rw [← hls]; simp
 rw [e] at h5
 have u5 : Upd S0 w4 (w4.setCell ⟨S0, i, none⟩ u) := (Upd.refl S0 w4).set i u
 have z5 : (w4.setCell ⟨S0, i, none⟩ u).heap[R0]? = some (.cells zs.toArray T (0, 0)) := (u5.block R0 (blk_lt z4) (fun h => by injection h with h; exact hne h.symm)).trans z4
 refine ⟨h5, there_row z5 (by simp [hl]), setCells_at zs ls hl z5, ?_⟩
 exact (But.upd (S := fun b => b = S0 ∨ b = R0) u5 (.inl rfl)).trans (But.upd (setCells_upd R0 ls _ 0) (.inr rfl))
set_option maxRecDepth 100000 in
set_option maxHeartbeats 8000000 in
theorem rsetP_in (v : Value) (x : Sn) (k : Nat) (qm qs m : Int) (w : World) (hs : SnAt w v x) (hp : x.ps.length ≤ 10000) (hg : x.gs.length ≤ 10000) (hq : x.ps[k]? = some (qm, qs)) (hqs : 0 ≤ qs ∧ qs < 4611686018427387904) :
    Calls Tryd.prog 76 #[v, .int .i64 ((k : Int) + 1), .int .i64 m] w (SnRet w { x with ps := x.ps.set k (m, qs + 1) }) := by
 obtain ⟨i0, I0, I1, I2, I3⟩ := info_parts Tryd.infoPS
 obtain ⟨A, c, B, d, rfl, h2, h3⟩ := hs
 obtain ⟨time, ps, gs⟩ := x
 simp only at h2 h3 hp hg hq ⊢
 obtain ⟨w1, hw1⟩ : ∃ w1, (w.alloc (.cells #[.int .i64 time, .slice A ps.length c, .slice B gs.length d] 25)).alloc (.cells #[.int .i64 0, .slice none 0 0, .slice none 0 0] 25) = w1 := ⟨_, rfl⟩
 have hx1 : Ext w w1 := by rw [← hw1]; exact ((Ext.refl w).alloc _).alloc _
 have hb1 : w1.heap[w.heap.size]? = some (.cells #[.int .i64 time, .slice A ps.length c, .slice B gs.length d] 25 (0, 0)) := by rw [← hw1]; exact blk_alloc (blk_new w _) _
 have hz1 : w1.heap[w.heap.size + 1]? = some (.cells #[.int .i64 0, .slice none 0 0, .slice none 0 0] 25 (0, 0)) := by rw [← hw1, ← World.size_alloc w (.cells #[.int .i64 time, .slice A ps.length c, .slice B gs.length d] 25)]; exact blk_new _ _
 have hsz1 : w1.heap.size = w.heap.size + 1 + 1 := by rw [← hw1, World.size_alloc, World.size_alloc]
 obtain ⟨S0, hS0⟩ : ∃ S0, w.heap.size = S0 := ⟨_, rfl⟩
 rw [hS0] at hb1 hz1 hsz1
 have hmade : OwnRows 61 2 snPCells (w1.alloc (.cells #[] 61)) w1.heap.size (.slice (some ⟨w1.heap.size, 0, none⟩) 0 0) [] := World.ownsRow_made (base := w1.heap.size) (e := 61) (size := 2) w1 #[] 0 (Nat.le_refl _) (by decide) rfl
 obtain ⟨A2, c2, hv2, hc2⟩ := (h2.ext hx1).form
 obtain ⟨u, w3, hr, ho, hgr⟩ := OwnRows.append (P := Tryd.prog) (e := 61) (m := 2) (f := snPCells) (xs := []) 22 Tryd.underlying22 I0 I1 I2 I3 rfl (by decide) snPCells_len snPCells_one hmade (h2.ext (hx1.alloc _)) (by simp [maxLen]; omega) (by simp; omega) (by simp)
 have hx3 : Ext w1 w3 := OwnRows.grown (W := w1) hmade ((Ext.refl w1).alloc _) hgr
 rw [List.nil_append] at ho
 obtain ⟨g0, cu, hu, hown, hgB, hgl, hth, ho4, hu4⟩ := OwnRows.setCells snPCells_len ho hq (x' := (m, qs + 1)) (j := 0) (ds := [.int .i64 m, .int .i64 (qs + 1)]) (by simp) (fun t ht => by rw [if_pos ⟨Nat.zero_le _, by simpa using ht⟩]; rfl)
 subst hu
 rw [Nat.add_zero] at hth ho4 hu4
 obtain ⟨w4, hw4⟩ : ∃ w4, w3.setCells g0 (k * 2) [.int .i64 m, .int .i64 (qs + 1)] = w4 := ⟨_, rfl⟩
 rw [hw4] at ho4 hu4
 have hx4 : Ext w1 w4 := Ext.upd hx3 hu4 hgB
 have htw := sn_two hx4 (cs := [.int .i64 time, .slice A ps.length c, .slice B gs.length d]) hb1 (zs := [.int .i64 0, .slice none 0 0, .slice none 0 0]) hz1 (by omega) 1 (.slice (some ⟨g0, 0, none⟩) ps.length cu) (ls := [.int .i64 time, .slice (some ⟨g0, 0, none⟩) ps.length cu, .slice B gs.length d]) rfl rfl
 obtain ⟨w6, hw6⟩ : ∃ w6, (w4.setCell ⟨S0, 1, none⟩ (.slice (some ⟨g0, 0, none⟩) ps.length cu)).setCells (S0 + 1) 0 [.int .i64 time, .slice (some ⟨g0, 0, none⟩) ps.length cu, .slice B gs.length d] = w6 := ⟨_, rfl⟩
 rw [hw6] at htw
 obtain ⟨hb5, hth6, hb6, hbut⟩ := htw
 have hx6 : Ext w w6 := But.after (S := fun b => b = S0 ∨ b = S0 + 1) (hx1.trans hx4) hbut (fun i hi => by omega)
 have hrow : RowsAt 2 snPCells w6 (.slice (some ⟨g0, 0, none⟩) ps.length cu) (ps.set k (m, qs + 1)) := ((ho4.rowsIn snPCells_len).but hbut (fun b hb _ hs => by omega)).rows
 have hret : SnRet w { (⟨time, ps, gs⟩ : Sn) with ps := ps.set k (m, qs + 1) } (.returned (.agg ([.int .i64 time, .slice (some ⟨g0, 0, none⟩) ps.length cu, .slice B gs.length d]).toArray)) w6 := by
  refine ⟨_, rfl, ?_, hx6⟩
  exact ⟨some ⟨g0, 0, none⟩, cu, B, d, by simp only [List.length_set], by simp only [List.length_set]; exact hrow, h3.ext hx6⟩
 obtain ⟨wm, hwm⟩ : ∃ wm, w1.alloc (.cells #[] 61) = wm := ⟨_, rfl⟩
 rw [hwm] at hr
 have HWM := Lib.hid hwm
 have HBM : Hid (wm.heap[S0]? = some (.cells #[.int .i64 time, .slice A ps.length c, .slice B gs.length d] 25 (0, 0))) := Lib.hid (by rw [← hwm]; exact blk_alloc hb1 _)
 clear hwm
 have HQ := Lib.hid hq
 obtain ⟨b3, o3, hA3, hb3, hc3⟩ := (OwnRows.rows snPCells_len ho).get hq
 simp only [Option.some.injEq, Addr.mk.injEq, and_true] at hA3
 obtain ⟨rfl, rfl⟩ := hA3
 have q4b := blk_cell (hx4.blk hb1) 1 _ rfl
 have z4b : w4.frozen? ⟨S0, 1, none⟩ = false := frozen_of_row _ _ 1 _ _ (hx4.blk hb1)
 have HS0 := Lib.hid hS0
 have HW1 := Lib.hid hw1
 have HR := Lib.hid hr
 have HTH := Lib.hid hth
 have HW4 := Lib.hid hw4
 have HB5 := Lib.hid hb5
 have HTH6 := Lib.hid hth6
 have HW6 := Lib.hid hw6
 have HB6 := Lib.hid hb6
 have HRET := Lib.hid hret
 have HX3 := Lib.hid hx3
 have HB1 := Lib.hid hb1
 have H2 := Lib.hid (h2.ext (hx1.trans hx3))
 have H3 := Lib.hid (h3.ext (hx1.trans hx3))
 have HP := Lib.hid hp
 have HG := Lib.hid hg
 have hp' : (ps.length : Int) ≤ 10000 := by omega
 have hg' : (gs.length : Int) ≤ 10000 := by omega
 clear hx1 hb1 hz1 hsz1 hmade hr ho hgr hx3 hown hgB hgl hth ho4 hu4 hx4 hb5 hth6 hb6 hbut hx6 hrow hret hb3 hw1 hw4 hw6 hS0 h2 h3 hp hg I0 I1 I2 I3 hv2 hc2
 have c1 := blk_cell HBM.out 1 _ rfl
 go_enter Tryd.func76, Tryd.ntmps76
 go_upto_region 1 with fail
 rw [HW1.out, HS0.out]
 go_upto_region 2 with (first | rw [HWM.out] | (at_builtin; refine wpList_append_run rfl _ _ 22 rfl _ _ rfl rfl HR.out ?_))
 have k1 := hc3 1 _ rfl
 rw [Nat.zero_add] at k1
 have l1 : (k : Int) + 1 - 1 = (k : Int) := by omega
 have l2 : (k : Int) < (ps.length : Int) := by have := (List.getElem?_eq_some_iff.1 HQ.out).1; omega
 have l3 : (k : Int) < 100000 := by omega
 have l4 : IntKind.i64.wrap (qs + 1) = qs + 1 := IntWalk.i64_in _ (by omega)
 go_upto_region 3 with (refine wpList_store_rowN rfl 61 _ _ rfl g0 (k * 2) [.int .i64 m, .int .i64 (qs + 1)] (.agg #[.int .i64 m, .int .i64 (qs + 1)]) (by go_simp) (by go_simp) rfl HTH.out (by kernel_rfl) (by intro u hu; simp at hu; rcases hu with rfl | rfl <;> rfl) HW4.out ?_)
 clear k1 l1 l2 l3 l4
 go_upto_region 4 with fail
 clear q4b z4b
 go_wp2_with (first | (refine wpList_load_rowW (by rfl) 25 _ rfl S0 (by go_simp) [.int .i64 time, .slice (some ⟨g0, 0, none⟩) ps.length cu, .slice B gs.length d] (.agg ([.int .i64 time, .slice (some ⟨g0, 0, none⟩) ps.length cu, .slice B gs.length d]).toArray) rfl _ (range_row HB5.out) Tryd.underlying25 rfl (by kernel_rfl) ?_) | (refine wpList_store_rowN rfl 25 _ _ rfl (S0 + 1) 0 [.int .i64 time, .slice (some ⟨g0, 0, none⟩) ps.length cu, .slice B gs.length d] (.agg ([.int .i64 time, .slice (some ⟨g0, 0, none⟩) ps.length cu, .slice B gs.length d]).toArray) (by go_simp) (by go_simp) rfl HTH6.out (by kernel_rfl) (sn3_one _ _ _ rfl rfl) HW6.out ?_))
 refine bodyPost_ret (v := .agg ([.int .i64 time, .slice (some ⟨g0, 0, none⟩) ps.length cu, .slice B gs.length d]).toArray) (results_cell_row rfl _ _ (S0 + 1) _ _ _ _ rfl HB6.out Tryd.underlying25 rfl (by kernel_rfl)) rfl ?_
 exact HRET.out
set_option maxRecDepth 100000 in
set_option maxHeartbeats 8000000 in
theorem rsetG_in (v : Value) (x : Sn) (k : Nat) (g st m qg qst qm qs : Int) (w : World) (hs : SnAt w v x) (hp : x.ps.length ≤ 10000) (hg : x.gs.length ≤ 10000) (hq : x.gs[k]? = some (qg, qst, qm, qs)) (hf : Md.fnd x.gs g = some k) (hqs : 0 ≤ qs ∧ qs < 4611686018427387904) :
    Calls Tryd.prog 78 #[v, .int .i64 g, .int .i64 st, .int .i64 m] w (SnRet w { x with gs := x.gs.set k (g, st, m, qs + 1) }) := by
 obtain ⟨i0, I0, I1, I2, I3⟩ := info_parts Tryd.infoGS
 obtain ⟨A, c, B, d, rfl, h2, h3⟩ := hs
 obtain ⟨time, ps, gs⟩ := x
 simp only at h2 h3 hp hg hq hf ⊢
 obtain ⟨w1, hw1⟩ : ∃ w1, (w.alloc (.cells #[.int .i64 time, .slice A ps.length c, .slice B gs.length d] 25)).alloc (.cells #[.int .i64 0, .slice none 0 0, .slice none 0 0] 25) = w1 := ⟨_, rfl⟩
 have hx1 : Ext w w1 := by rw [← hw1]; exact ((Ext.refl w).alloc _).alloc _
 have hb1 : w1.heap[w.heap.size]? = some (.cells #[.int .i64 time, .slice A ps.length c, .slice B gs.length d] 25 (0, 0)) := by rw [← hw1]; exact blk_alloc (blk_new w _) _
 have hz1 : w1.heap[w.heap.size + 1]? = some (.cells #[.int .i64 0, .slice none 0 0, .slice none 0 0] 25 (0, 0)) := by rw [← hw1, ← World.size_alloc w (.cells #[.int .i64 time, .slice A ps.length c, .slice B gs.length d] 25)]; exact blk_new _ _
 have hsz1 : w1.heap.size = w.heap.size + 1 + 1 := by rw [← hw1, World.size_alloc, World.size_alloc]
 obtain ⟨S0, hS0⟩ : ∃ S0, w.heap.size = S0 := ⟨_, rfl⟩
 rw [hS0] at hb1 hz1 hsz1
 have hmade : OwnRows 49 4 snGCells (w1.alloc (.cells #[] 49)) w1.heap.size (.slice (some ⟨w1.heap.size, 0, none⟩) 0 0) [] := World.ownsRow_made (base := w1.heap.size) (e := 49) (size := 4) w1 #[] 0 (Nat.le_refl _) (by decide) rfl
 obtain ⟨A2, c2, hv2, hc2⟩ := (h3.ext hx1).form
 obtain ⟨u, w3, hr, ho, hgr⟩ := OwnRows.append (P := Tryd.prog) (e := 49) (m := 4) (f := snGCells) (xs := []) 23 Tryd.underlying23 I0 I1 I2 I3 rfl (by decide) snGCells_len snGCells_one hmade (h3.ext (hx1.alloc _)) (by simp [maxLen]; omega) (by simp; omega) (by simp)
 have hx3 : Ext w1 w3 := OwnRows.grown (W := w1) hmade ((Ext.refl w1).alloc _) hgr
 rw [List.nil_append] at ho
 obtain ⟨wm, hwm⟩ : ∃ wm, w1.alloc (.cells #[] 49) = wm := ⟨_, rfl⟩
 rw [hwm] at hr
 have HWM := Lib.hid hwm
 have HBM : Hid (wm.heap[S0]? = some (.cells #[.int .i64 time, .slice A ps.length c, .slice B gs.length d] 25 (0, 0))) := Lib.hid (by rw [← hwm]; exact blk_alloc hb1 _)
 clear hwm
 have HS0 := Lib.hid hS0
 have HW1 := Lib.hid hw1
 have HR := Lib.hid hr
 have HQ := Lib.hid hq
 have HF : Hid (Md.fidx gs g = (k : Int)) := Lib.hid (by unfold Md.fidx; rw [hf])
 have HHO := Lib.hid ho
 have HX1 := Lib.hid hx1
 have HX3 := Lib.hid hx3
 have HB1 := Lib.hid hb1
 have HZ1 := Lib.hid hz1
 have HSZ1 := Lib.hid hsz1
 have H20 := Lib.hid h2
 have H30 := Lib.hid h3
 have H2 := Lib.hid (h2.ext (hx1.trans hx3))
 have H3 := Lib.hid (h3.ext (hx1.trans hx3))
 have HB3 := Lib.hid (hx3.blk hb1)
 have HP := Lib.hid hp
 have HG := Lib.hid hg
 have hp' : (ps.length : Int) ≤ 10000 := by omega
 have hg' : (gs.length : Int) ≤ 10000 := by omega
 clear hx1 hb1 hz1 hsz1 hmade hr ho hgr hx3 hw1 hS0 h2 h3 hp hg hq hf I0 I1 I2 I3 hv2 hc2
 have c1 := blk_cell HBM.out 2 _ rfl
 go_enter Tryd.func78, Tryd.ntmps78
 go_upto_region 1 with fail
 rw [HW1.out, HS0.out]
 go_upto_region 2 with (first | rw [HWM.out] | (at_builtin; refine wpList_append_run rfl _ _ 23 rfl _ _ rfl rfl HR.out ?_))
 clear c1
 go_wp2_with (refine wpList_load_rowW (by rfl) 25 _ rfl S0 (by go_simp) [.int .i64 time, .slice A ps.length c, .slice B gs.length d] (.agg #[.int .i64 time, .slice A ps.length c, .slice B gs.length d]) rfl _ (range_row HB3.out) Tryd.underlying25 rfl (by kernel_rfl) ?_)
 refine (rfind_any _ ⟨time, ps, gs⟩ g w3 ⟨A, c, B, d, rfl, H2.out, H3.out⟩ HP.out HG.out _ HF.out).mono ?_
 rintro e wv ⟨rfl, hxv⟩
 have hx1 := HX1.out
 have hx3 := HX3.out.trans hxv
 have hb1 := HB1.out
 have hz1 := HZ1.out
 have hsz1 := HSZ1.out
 have h2 := H20.out
 have h3 := H30.out
 have hq := HQ.out
 have hS0 := HS0.out
 have ho := HHO.out.ext hxv
 obtain ⟨g0, cu, hu, hown, hgB, hgl, hth, ho4, hu4⟩ := OwnRows.setCells snGCells_len ho hq (x' := (g, st, m, qs + 1)) (j := 0) (ds := [.int .i64 g, .int .i64 st, .int .i64 m, .int .i64 (qs + 1)]) (by simp) (fun t ht => by rw [if_pos ⟨Nat.zero_le _, by simpa using ht⟩]; rfl)
 subst hu
 rw [Nat.add_zero] at hth ho4 hu4
 obtain ⟨w4, hw4⟩ : ∃ w4, wv.setCells g0 (k * 4) [.int .i64 g, .int .i64 st, .int .i64 m, .int .i64 (qs + 1)] = w4 := ⟨_, rfl⟩
 rw [hw4] at ho4 hu4
 have hx4 : Ext w1 w4 := Ext.upd hx3 hu4 hgB
 have htw := sn_two hx4 (cs := [.int .i64 time, .slice A ps.length c, .slice B gs.length d]) hb1 (zs := [.int .i64 0, .slice none 0 0, .slice none 0 0]) hz1 (by omega) 2 (.slice (some ⟨g0, 0, none⟩) gs.length cu) (ls := [.int .i64 time, .slice A ps.length c, .slice (some ⟨g0, 0, none⟩) gs.length cu]) rfl rfl
 obtain ⟨w6, hw6⟩ : ∃ w6, (w4.setCell ⟨S0, 2, none⟩ (.slice (some ⟨g0, 0, none⟩) gs.length cu)).setCells (S0 + 1) 0 [.int .i64 time, .slice A ps.length c, .slice (some ⟨g0, 0, none⟩) gs.length cu] = w6 := ⟨_, rfl⟩
 rw [hw6] at htw
 obtain ⟨hb5, hth6, hb6, hbut⟩ := htw
 have hx6 : Ext w w6 := But.after (S := fun b => b = S0 ∨ b = S0 + 1) (hx1.trans hx4) hbut (fun i hi => by omega)
 have hrow : RowsAt 4 snGCells w6 (.slice (some ⟨g0, 0, none⟩) gs.length cu) (gs.set k (g, st, m, qs + 1)) := ((ho4.rowsIn snGCells_len).but hbut (fun b hb _ hs => by omega)).rows
 have hret : SnRet w { (⟨time, ps, gs⟩ : Sn) with gs := gs.set k (g, st, m, qs + 1) } (.returned (.agg ([.int .i64 time, .slice A ps.length c, .slice (some ⟨g0, 0, none⟩) gs.length cu]).toArray)) w6 := by
  refine ⟨_, rfl, ?_, hx6⟩
  exact ⟨A, c, some ⟨g0, 0, none⟩, cu, by simp only [List.length_set], h2.ext hx6, by simp only [List.length_set]; exact hrow⟩
 obtain ⟨b3, o3, hA3, hb3, hc3⟩ := (OwnRows.rows snGCells_len ho).get hq
 simp only [Option.some.injEq, Addr.mk.injEq, and_true] at hA3
 obtain ⟨rfl, rfl⟩ := hA3
 have k1 := hc3 3 _ rfl
 rw [Nat.zero_add] at k1
 have q4b := blk_cell (hx4.blk hb1) 2 _ rfl
 have z4b : w4.frozen? ⟨S0, 2, none⟩ = false := frozen_of_row _ _ 2 _ _ (hx4.blk hb1)
 have HTH := Lib.hid hth
 have HW4 := Lib.hid hw4
 have HB5 := Lib.hid hb5
 have HTH6 := Lib.hid hth6
 have HW6 := Lib.hid hw6
 have HB6 := Lib.hid hb6
 have HRET := Lib.hid hret
 clear hx1 hb1 hz1 hsz1 ho hx3 hown hgB hgl hth ho4 hu4 hx4 hb5 hth6 hb6 hbut hx6 hrow hret hb3 hw4 hw6 hS0 h2 h3 hc3 hq hxv
 have l2 : (k : Int) < (gs.length : Int) := by have := (List.getElem?_eq_some_iff.1 HQ.out).1; omega
 have l3 : (k : Int) < 100000 := by omega
 have l4 : IntKind.i64.wrap (qs + 1) = qs + 1 := IntWalk.i64_in _ (by omega)
 go_simp
 go_upto_region 4 with (refine wpList_store_rowN rfl 49 _ _ rfl g0 (k * 4) [.int .i64 g, .int .i64 st, .int .i64 m, .int .i64 (qs + 1)] (.agg #[.int .i64 g, .int .i64 st, .int .i64 m, .int .i64 (qs + 1)]) (by go_simp) (by go_simp) rfl HTH.out (by kernel_rfl) (by intro u hu; simp at hu; rcases hu with rfl | rfl | rfl | rfl <;> rfl) HW4.out ?_)
 clear k1 l2 l3 l4
 go_upto_region 5 with fail
 clear q4b z4b
 go_wp2_with (first | (refine wpList_load_rowW (by rfl) 25 _ rfl S0 (by go_simp) [.int .i64 time, .slice A ps.length c, .slice (some ⟨g0, 0, none⟩) gs.length cu] (.agg ([.int .i64 time, .slice A ps.length c, .slice (some ⟨g0, 0, none⟩) gs.length cu]).toArray) rfl _ (range_row HB5.out) Tryd.underlying25 rfl (by kernel_rfl) ?_) | (refine wpList_store_rowN rfl 25 _ _ rfl (S0 + 1) 0 [.int .i64 time, .slice A ps.length c, .slice (some ⟨g0, 0, none⟩) gs.length cu] (.agg ([.int .i64 time, .slice A ps.length c, .slice (some ⟨g0, 0, none⟩) gs.length cu]).toArray) (by go_simp) (by go_simp) rfl HTH6.out (by kernel_rfl) (sn3_one _ _ _ rfl rfl) HW6.out ?_))
 refine bodyPost_ret (v := .agg ([.int .i64 time, .slice A ps.length c, .slice (some ⟨g0, 0, none⟩) gs.length cu]).toArray) (results_cell_row rfl _ _ (S0 + 1) _ _ _ _ rfl HB6.out Tryd.underlying25 rfl (by kernel_rfl)) rfl ?_
 exact HRET.out
namespace Md
def stp (g : Int) (a : List Gs4 × Bool) (y : Gs4) : List Gs4 × Bool := if g < y.1 ∧ a.2 = false then (a.1 ++ [(g, 1, 0, 0)] ++ [y], true) else (a.1 ++ [y], a.2)
def withF (l : List Gs4) (g : Int) : List Gs4 := if (l.foldl (stp g) ([], false)).2 = true then (l.foldl (stp g) ([], false)).1 else (l.foldl (stp g) ([], false)).1 ++ [(g, 1, 0, 0)]
theorem stp_true (g : Int) : ∀ (l a : List Gs4), l.foldl (stp g) (a, true) = (a ++ l, true)
 | [], a => by simp
 | y :: l, a => by
  rw [List.foldl_cons]
  have : stp g (a, true) y = (a ++ [y], true) := by unfold stp; rw [if_neg (by simp)]
  rw [this, stp_true g l]
  simp
theorem withF_from (g : Int) : ∀ (l a : List Gs4), rises l → (∀ y ∈ l, y.1 ≠ g) → (if (l.foldl (stp g) (a, false)).2 = true then (l.foldl (stp g) (a, false)).1 else (l.foldl (stp g) (a, false)).1 ++ [(g, 1, 0, 0)]) = a ++ l.insertIdx (gpos l g) (g, 1, 0, 0)
 | [], a, _, _ => by simp [gpos]
 | y :: l, a, hr, hn => by
  have hr2 : rises l := by unfold rises at hr ⊢; rw [List.map_cons, List.pairwise_cons] at hr; exact hr.2
  rw [List.foldl_cons]
  by_cases h : g < y.1
  · have e : stp g (a, false) y = (a ++ [(g, 1, 0, 0)] ++ [y], true) := by unfold stp; rw [if_pos ⟨h, rfl⟩]
    rw [e, stp_true]
    have : gpos (y :: l) g = 0 := by unfold gpos; rw [List.takeWhile_cons_of_neg (by simp; omega)]; rfl
    rw [this]
    simp
  · have hy := hn y (by simp)
    have e : stp g (a, false) y = (a ++ [y], false) := by unfold stp; rw [if_neg (fun hh => h hh.1)]
    rw [e, withF_from g l (a ++ [y]) hr2 fun z hz => hn z (List.mem_cons_of_mem _ hz)]
    have : gpos (y :: l) g = gpos l g + 1 := by unfold gpos; rw [List.takeWhile_cons_of_pos (by simp; omega)]; rfl
    rw [this]
    simp
theorem withF_eq {l : List Gs4} {g : Int} (hr : rises l) (hn : fnd l g = none) : withF l g = l.insertIdx (gpos l g) (g, 1, 0, 0) := by
 unfold withF
 rw [withF_from g l [] hr (fnd_none.1 hn), List.nil_append]
theorem stp_len (g : Int) : ∀ (l : List Gs4) (a : List Gs4 × Bool), (l.foldl (stp g) a).1.length ≤ a.1.length + 2 * l.length
 | [], a => by simp
 | y :: l, a => by
  rw [List.foldl_cons]
  have := stp_len g l (stp g a y)
  have h2 : (stp g a y).1.length ≤ a.1.length + 2 := by unfold stp; split <;> simp
  simp only [List.length_cons]
  omega
theorem wo_eq {l : List Gs4} (hr : rises l) {g : Int} {k : Nat} (hk : fnd l g = some k) : l.filter (fun y => y.1 != g) = l.eraseIdx (gpos l g) := by
 rw [gpos_fnd hr hk]
 induction l generalizing k with
 | nil => simp [fnd] at hk
 | cons y l ih =>
  have hr2 : rises l := by unfold rises at hr ⊢; rw [List.map_cons, List.pairwise_cons] at hr; exact hr.2
  have hlt : ∀ z ∈ l, y.1 < z.1 := by
   unfold rises at hr
   rw [List.map_cons, List.pairwise_cons] at hr
   exact fun z hz => hr.1 z.1 (List.mem_map_of_mem hz)
  unfold fnd at hk
  by_cases hy : y.1 = g
  · rw [if_pos hy] at hk
    obtain rfl := Option.some.inj hk
    rw [List.filter_cons_of_neg (by simp [hy]), List.eraseIdx_cons_zero]
    exact List.filter_eq_self.2 fun z hz => by have := hlt z hz; simp; omega
  · rw [if_neg hy, Option.map_eq_some_iff] at hk
    obtain ⟨j, hj, rfl⟩ := hk
    rw [List.filter_cons_of_pos (by simp [hy]), List.eraseIdx_cons_succ, ih hr2 hj]
end Md
theorem rows_one {α : Type} {m : Nat} {f : α → List Value} (w : World) (T : TypeId) (y : α) : RowsAt m f (w.alloc (.cells (f y).toArray T)) (.slice (some ⟨w.heap.size, 0, none⟩) 1 1) [y] := by
 refine ⟨_, 1, rfl, by simp, fun _ => ⟨w.heap.size, 0, rfl, by simp, fun j x hj i u hu => ?_⟩⟩
 match j, hj with
 | 0, hj =>
  simp only [List.getElem?_cons_zero, Option.some.injEq] at hj
  subst hj
  rw [show 0 + 0 * m + i = i by omega]
  refine blk_cell (blk_new w _) _ _ ?_
  rw [List.getElem?_toArray]
  exact hu
theorem gs_push {W w : World} {u : Value} {l : List Gs4} (h : OwnRows 49 4 snGCells w W.heap.size u l) (hx : Ext W w) (y : Gs4) (hl : l.length ≤ 1000000) :
    ∃ u' w', (Builtin.append_ #[23, 23] 23 #[u, .slice (some ⟨w.heap.size, 0, none⟩) 1 1]).run Tryd.prog (w.alloc (.cells (snGCells y).toArray 49)) = .ok u' w' ∧ OwnRows 49 4 snGCells w' W.heap.size u' (l ++ [y]) ∧ Ext W w' := by
 obtain ⟨i0, I0, I1, I2, I3⟩ := info_parts Tryd.infoGS
 obtain ⟨u', w', hr, ho, hg⟩ := OwnRows.append (P := Tryd.prog) (e := 49) (m := 4) (f := snGCells) (xs := l) (ys := [y]) 23 Tryd.underlying23 I0 I1 I2 I3 rfl (by decide) snGCells_len snGCells_one (h.alloc (.cells (snGCells y).toArray 49)) (rows_one w 49 y) (by simp [maxLen]; omega) (by simp; omega) (by have := hx.size; simp; omega)
 exact ⟨u', w', hr, ho, OwnRows.grown (W := W) (h.alloc _) (hx.alloc _) hg⟩
theorem sn_fin {w w1 wq : World} {S0 : Nat} {time : Int} {ps : List (Int × Int)} {gs gl : List Gs4} {A B Au : Option Addr} {c d cu : Nat} (hx1 : Ext w w1) (hS0 : w.heap.size = S0) (hb1 : w1.heap[S0]? = some (.cells #[.int .i64 time, .slice A ps.length c, .slice B gs.length d] 25 (0, 0))) (hz1 : w1.heap[S0 + 1]? = some (.cells #[.int .i64 0, .slice none 0 0, .slice none 0 0] 25 (0, 0))) (hsz1 : w1.heap.size = S0 + 1 + 1)
    (h2 : RowsAt 2 snPCells w (.slice A ps.length c) ps) (hx : Ext w1 wq) (ho : OwnRows 49 4 snGCells wq w1.heap.size (.slice Au gl.length cu) gl) :
    wq.cell? ⟨S0, 2, none⟩ = some (.slice B gs.length d) ∧ wq.frozen? ⟨S0, 2, none⟩ = false ∧ ∃ w6, (wq.setCell ⟨S0, 2, none⟩ (.slice Au gl.length cu)).setCells (S0 + 1) 0 [.int .i64 time, .slice A ps.length c, .slice Au gl.length cu] = w6 ∧ (wq.setCell ⟨S0, 2, none⟩ (.slice Au gl.length cu)).heap[S0]? = some (.cells ([.int .i64 time, .slice A ps.length c, .slice Au gl.length cu]).toArray 25 (0, 0)) ∧ (wq.setCell ⟨S0, 2, none⟩ (.slice Au gl.length cu)).there (S0 + 1) 0 ([.int .i64 time, .slice A ps.length c, .slice Au gl.length cu] : List Value).length ∧ w6.heap[S0 + 1]? = some (.cells ([.int .i64 time, .slice A ps.length c, .slice Au gl.length cu]).toArray 25 (0, 0)) ∧ SnRet w ⟨time, ps, gl⟩ (.returned (.agg ([.int .i64 time, .slice A ps.length c, .slice Au gl.length cu]).toArray)) w6 := by
 have htw := sn_two hx (cs := [.int .i64 time, .slice A ps.length c, .slice B gs.length d]) hb1 (zs := [.int .i64 0, .slice none 0 0, .slice none 0 0]) hz1 (by omega) 2 (.slice Au gl.length cu) (ls := [.int .i64 time, .slice A ps.length c, .slice Au gl.length cu]) rfl rfl
 refine ⟨blk_cell (hx.blk hb1) 2 _ rfl, frozen_of_row _ _ 2 _ _ (hx.blk hb1), _, rfl, htw.1, htw.2.1, htw.2.2.1, ?_⟩
 have hbut := htw.2.2.2
 have hx6 := But.after (S := fun b => b = S0 ∨ b = S0 + 1) (hx1.trans hx) hbut (fun i hi => by omega)
 exact ⟨_, rfl, ⟨A, c, Au, cu, rfl, h2.ext hx6, ((ho.rowsIn snGCells_len).but hbut (fun b hb _ hs => by omega)).rows⟩, hx6⟩
set_option maxRecDepth 100000 in
set_option maxHeartbeats 8000000 in
theorem rwithout_any (v : Value) (x : Sn) (g : Int) (w : World) (hs : SnAt w v x) (hp : x.ps.length ≤ 10000) (hg : x.gs.length ≤ 10000) (ys : List Gs4) (hys : x.gs.filter (fun y => y.1 != g) = ys) :
    Calls Tryd.prog 79 #[v, .int .i64 g] w (SnRet w { x with gs := ys }) := by
 obtain ⟨A, c, B, d, rfl, h2, h3⟩ := hs
 obtain ⟨time, ps, gs⟩ := x
 simp only at h2 h3 hp hg ⊢
 obtain ⟨w1, hw1⟩ : ∃ w1, (w.alloc (.cells #[.int .i64 time, .slice A ps.length c, .slice B gs.length d] 25)).alloc (.cells #[.int .i64 0, .slice none 0 0, .slice none 0 0] 25) = w1 := ⟨_, rfl⟩
 have hx1 : Ext w w1 := by rw [← hw1]; exact ((Ext.refl w).alloc _).alloc _
 have hb1 : w1.heap[w.heap.size]? = some (.cells #[.int .i64 time, .slice A ps.length c, .slice B gs.length d] 25 (0, 0)) := by rw [← hw1]; exact blk_alloc (blk_new w _) _
 have hz1 : w1.heap[w.heap.size + 1]? = some (.cells #[.int .i64 0, .slice none 0 0, .slice none 0 0] 25 (0, 0)) := by rw [← hw1, ← World.size_alloc w (.cells #[.int .i64 time, .slice A ps.length c, .slice B gs.length d] 25)]; exact blk_new _ _
 have hsz1 : w1.heap.size = w.heap.size + 1 + 1 := by rw [← hw1, World.size_alloc, World.size_alloc]
 obtain ⟨S0, hS0⟩ : ∃ S0, w.heap.size = S0 := ⟨_, rfl⟩
 rw [hS0] at hb1 hz1 hsz1
 have hmade : OwnRows 49 4 snGCells (w1.alloc (.cells #[] 49)) w1.heap.size (.slice (some ⟨w1.heap.size, 0, none⟩) 0 0) [] := World.ownsRow_made (base := w1.heap.size) (e := 49) (size := 4) w1 #[] 0 (Nat.le_refl _) (by decide) rfl
 obtain ⟨wm, hwm⟩ : ∃ wm, w1.alloc (.cells #[] 49) = wm := ⟨_, rfl⟩
 rw [hwm] at hmade
 have hxm : Ext w1 wm := by rw [← hwm]; exact (Ext.refl w1).alloc _
 have HMADE := Lib.hid hmade
 have HWM := Lib.hid hwm
 have HXM := Lib.hid hxm
 have HS0 := Lib.hid hS0
 have HW1 := Lib.hid hw1
 have HX1 := Lib.hid hx1
 have HB1 := Lib.hid hb1
 have HZ1 := Lib.hid hz1
 have HSZ := Lib.hid hsz1
 have H20 := Lib.hid h2
 have H3 := Lib.hid (h3.ext hx1)
 have hg' : (gs.length : Int) ≤ 10000 := by omega
 clear hmade hwm hxm hS0 hw1 hx1 hb1 hz1 hsz1 h2 h3
 simp only at hys
 have HYS := Lib.hid hys
 clear hys
 go_enter Tryd.func79, Tryd.ntmps79
 go_upto_region 1 with fail
 rw [HW1.out, HS0.out]
 go_wp2_with (first | rw [HWM.out])
 go_loopw [5, 6] (fun uv iv wr => ∃ (k : Nat) (l : List Gs4), k ≤ gs.length ∧ iv = .int .i64 k ∧ l = (gs.take k).filter (fun y => y.1 != g) ∧ OwnRows 49 4 snGCells wr w1.heap.size uv l ∧ Ext w1 wr) (fun _ iv _ => gs.length - (intOf iv).toNat)
 case atStart => exact ⟨0, [], by omega, rfl, rfl, HMADE.out, HXM.out⟩
 case round =>
  obtain ⟨k, l, hk, rfl, hl, ho, hx⟩ := hrel
  have HL := Lib.hid hl
  have HO := Lib.hid ho
  have HX := Lib.hid hx
  have HLL : Hid (l.length ≤ 10000) := Lib.hid (by rw [hl]; exact Nat.le_trans (List.length_filter_le _ _) (by rw [List.length_take]; omega))
  have c2 := blk_cell (hx.blk HB1.out) 2 _ rfl
  clear hl ho hx
  by_cases hlt : k < gs.length
  · obtain ⟨y, hy⟩ : ∃ y, gs[k]? = some y := ⟨_, List.getElem?_eq_getElem hlt⟩
    obtain ⟨b, o, hB, hb, hc⟩ := (H3.out.ext HX.out).get hy
    subst hB
    have k0 := hc 0 _ rfl
    have k1 := hc 1 _ rfl
    have k2 := hc 2 _ rfl
    have k3 := hc 3 _ rfl
    rw [Nat.add_zero] at k0
    have HY : Hid ((gs.take (k + 1)) = gs.take k ++ [y]) := Lib.hid (by rw [List.take_add_one, hy]; rfl)
    clear hc hb hy
    by_cases hm : y.1 = g
    · have h1 : (y.1 != g) = false := by simpa using hm
      have HN := Lib.hid hm
      clear hm
      go_wp2
      go_roundw
      case rel => exact ⟨k + 1, l, by omega, by go_num, by rw [HY.out, List.filter_append, HL.out]; simp [HN.out], HO.out, HX.out⟩
      case measure => simp [intOf]; omega
    · have h1 : (y.1 != g) = true := by simpa using hm
      have HN := Lib.hid hm
      obtain ⟨un, wn, hr1, ho1, hx1⟩ := gs_push (W := w1) HO.out HX.out y (by have := HLL.out; omega)
      have HR1 := Lib.hid hr1
      have HO1 := Lib.hid ho1
      have HXN1 := Lib.hid hx1
      clear hr1 ho1 hx1
      clear hm
      go_wp2_with (at_builtin; refine wpList_append_run rfl _ _ 23 rfl _ _ rfl rfl HR1.out ?_)
      go_roundw
      case rel => exact ⟨k + 1, l ++ [y], by omega, by go_num, by rw [HY.out, List.filter_append, HL.out]; simp [HN.out], HO1.out, HXN1.out⟩
      case measure => simp [intOf]; omega
  · obtain rfl : k = gs.length := by omega
    have HLY : Hid (l = ys) := Lib.hid (by rw [HL.out, List.take_length, HYS.out])
    obtain rfl := HLY.out
    clear hk hlt c2
    obtain ⟨Au, cu, hu, -⟩ := (OwnRows.rows snGCells_len HO.out).form
    have HO9 := Lib.hid HO.out
    subst hu
    obtain ⟨q4b, z4b, w6, hw6, hb5, hth6, hb6, hret⟩ := sn_fin HX1.out HS0.out HB1.out HZ1.out HSZ.out H20.out HX.out HO9.out
    have HW6 := Lib.hid hw6
    have HB5 := Lib.hid hb5
    have HTH6 := Lib.hid hth6
    have HB6 := Lib.hid hb6
    have HRET := Lib.hid hret
    clear hw6 hb5 hth6 hb6 hret
    go_upto_region 8 with fail
    clear q4b z4b
    go_wp2_with (first | (refine wpList_load_rowW (by rfl) 25 _ rfl S0 (by go_simp) [.int .i64 time, .slice A ps.length c, .slice Au l.length cu] (.agg ([.int .i64 time, .slice A ps.length c, .slice Au l.length cu]).toArray) rfl _ (range_row HB5.out) Tryd.underlying25 rfl (by kernel_rfl) ?_) | (refine wpList_store_rowN rfl 25 _ _ rfl (S0 + 1) 0 [.int .i64 time, .slice A ps.length c, .slice Au l.length cu] (.agg ([.int .i64 time, .slice A ps.length c, .slice Au l.length cu]).toArray) (by go_simp) (by go_simp) rfl HTH6.out (by kernel_rfl) (sn3_one _ _ _ rfl rfl) HW6.out ?_))
    refine bodyPost_ret (v := .agg ([.int .i64 time, .slice A ps.length c, .slice Au l.length cu]).toArray) (results_cell_row rfl _ _ (S0 + 1) _ _ _ _ rfl HB6.out Tryd.underlying25 rfl (by kernel_rfl)) rfl ?_
    exact HRET.out
end Go.Proofs.YtohncgikdlbogaaDoor
