/-
  Several texts in one: Mx.
-/
import Derived.Test.YtohncgikdlbogaaDoorE01
import Derived.Test.YtohncgikdlbogaaDoorE05
import Derived.IntWalk
import Derived.Deep.Cut
import Derived.Deep.DeepCutAuto
import Derived.Test.YtohncgikdlbogaaDoorE10
set_option linter.unusedVariables false
set_option linter.unusedSimpArgs false
namespace Go.Proofs.YtohncgikdlbogaaDoor
open Go.RowKit
open Go.RowKit Go.Maps
theorem rsnholds_kx (v : Value) (l : List (Int × Int)) (m n : Int) (w : World) (hr : (cntP l m : Int) = n) (h : RowsAt 2 snPCells w v l) (hn : l.length ≤ 100000) :
    Calls Tryd.prog 51 #[v, .int .i64 m] w fun e w' => e = .returned (.int .i64 n) ∧ w = w' := by subst hr; exact rsnholds_any v l m w h hn
theorem pw_chain : ∀ (L : List Int) (x : Int), (∀ i (h : i + 1 < (x :: L).length), (x :: L)[i] < (x :: L)[i + 1]) → (x :: L).Pairwise (· < ·)
 | [], x, _ => by simp
 | y :: L, x, h => by
  have ih := pw_chain L y fun i hi => by
   have := h (i + 1) (by simpa using hi)
   simpa using this
  have hxy : x < y := by simpa using h 0 (by simp)
  refine List.pairwise_cons.2 ⟨fun z hz => ?_, ih⟩
  rcases List.mem_cons.1 hz with rfl | hz
  · exact hxy
  · exact Int.lt_trans hxy ((List.pairwise_cons.1 ih).1 z hz)
def rPOk (ps : List (Int × Int)) (p : Int × Int) : Prop := snNum p.1 = true ∧ snNum p.2 = true ∧ (p.1 ≠ 0 → cntP ps p.1 = 1)
def rGOk (ps : List (Int × Int)) (gs : List Gs4) (i : Nat) (g : Gs4) : Prop := snNum g.1 = true ∧ snNum g.2.2.1 = true ∧ snNum g.2.2.2 = true ∧ 1 ≤ g.1 ∧ (∀ j, i = j + 1 → ∀ p, gs[j]? = some p → p.1 < g.1) ∧ snRight ps gs g.2.1 g.2.2.1 = true
theorem snRight_fit {ps : List (Int × Int)} {gs : List Gs4} {g : Gs4} : snRight ps gs g.2.1 g.2.2.1 = true ↔ snGFit (fun m => (cntP ps m : Int)) g ∧ (g.2.2.1 ≠ 0 → ¬ (g.2.1 = 1 ∨ g.2.1 = 3) → cntG gs g.2.2.1 = 1) := by
 unfold snRight snGFit
 by_cases h1 : g.2.1 = 1 ∨ g.2.1 = 3
 · rw [if_pos h1, if_pos h1]
   simp only [decide_eq_true_eq]
   exact ⟨fun h => ⟨h, fun _ hn => absurd h1 hn⟩, fun h => h.1⟩
 · rw [if_neg h1, if_neg h1]
   by_cases h2 : g.2.2.1 = 0 ∨ cntG gs g.2.2.1 ≠ 1
   · rw [if_pos h2]
     refine ⟨fun h => (by cases h), fun h => ?_⟩
     rcases h2 with h2 | h2
     · exact absurd h2 h.1.1
     · exact absurd (h.2 h.1.1 h1) h2
   · rw [if_neg h2]
     simp only [Bool.or_eq_true, Bool.and_eq_true, decide_eq_true_eq]
     have h3 : g.2.2.1 ≠ 0 := fun h => h2 (.inl h)
     have h4 : cntG gs g.2.2.1 = 1 := Decidable.not_not.1 fun h => h2 (.inr h)
     constructor
     · intro h; exact ⟨⟨h3, by omega⟩, fun _ _ => h4⟩
     · rintro ⟨⟨_, h⟩, _⟩; omega
theorem cntG_pos {gs : List Gs4} {m : Int} (h : 0 < cntG gs m) : ∃ g ∈ gs, g.2.2.1 = m := by
 obtain ⟨g, h1, h2⟩ := List.countP_pos_iff.1 h
 exact ⟨g, h1, by simpa using h2⟩
theorem cntG_mem {gs : List Gs4} {g : Gs4} (h : g ∈ gs) : 0 < cntG gs g.2.2.1 := List.countP_pos_iff.2 ⟨g, h, by simp⟩
theorem cntP_mem {ps : List (Int × Int)} {p : Int × Int} (h : p ∈ ps) : 0 < cntP ps p.1 := List.countP_pos_iff.2 ⟨p, h, by simp⟩
theorem Sn.may_doc (s : Sn) : s.may = true ↔ snNum s.time = true ∧ s.ps.length ≤ 64 ∧ s.gs.length ≤ 1000 ∧ (∀ (i : Nat) p, s.ps[i]? = some p → rPOk s.ps p) ∧ ∀ (i : Nat) g, s.gs[i]? = some g → rGOk s.ps s.gs i g := by
 rw [Sn.may_iff]
 constructor
 · rintro ⟨a, b, c, d, e, f, k, l, m⟩
   refine ⟨a, b, c, fun i p hi => ?_, fun i g hi => ?_⟩
   · have hp := List.mem_of_getElem? hi
     have := d p hp
     unfold snPOk at this
     simp only [Bool.and_eq_true] at this
     refine ⟨this.1, this.2, fun h0 => ?_⟩
     have h1 := e _ h0
     have h2 := cntP_mem hp
     omega
   · have hg := List.mem_of_getElem? hi
     have hok := f g hg
     unfold snGOk at hok
     simp only [Bool.and_eq_true] at hok
     refine ⟨hok.1.1.1, hok.1.2, hok.2, ?_, fun j hj p hp => ?_, snRight_fit.2 ⟨l g hg, fun h0 _ => ?_⟩⟩
     · have := (List.pairwise_cons.1 k).1 g.1 (List.mem_map_of_mem hg)
       omega
     · have hpw := (List.pairwise_cons.1 k).2
       subst hj
       obtain ⟨hi1, hi2⟩ := List.getElem?_eq_some_iff.1 hi
       obtain ⟨hp1, hp2⟩ := List.getElem?_eq_some_iff.1 hp
       have := List.pairwise_iff_getElem.1 hpw j (j + 1) (by simpa using hp1) (by simpa using hi1) (by omega)
       simpa [hi2, hp2] using this
     · have h1 := m _ h0
       have h2 := cntG_mem hg
       omega
 · rintro ⟨a, b, c, d, e⟩
   have hP : ∀ p ∈ s.ps, rPOk s.ps p := fun p hp => by obtain ⟨i, hi⟩ := List.getElem?_of_mem hp; exact d i p hi
   have hG : ∀ g ∈ s.gs, ∃ i, rGOk s.ps s.gs i g := fun g hg => by obtain ⟨i, hi⟩ := List.getElem?_of_mem hg; exact ⟨i, e i g hi⟩
   refine ⟨a, b, c, fun p hp => ?_, fun m hm => ?_, fun g hg => ?_, ?_, fun g hg => ?_, fun m hm => ?_⟩
   · unfold snPOk; rw [(hP p hp).1, (hP p hp).2.1]; rfl
   · by_cases h0 : 0 < cntP s.ps m
     · obtain ⟨p, h1, h2⟩ := List.countP_pos_iff.1 h0
       have h3 : p.1 = m := by simpa using h2
       have := (hP p h1).2.2 (by rw [h3]; exact hm)
       rw [h3] at this
       omega
     · omega
   · obtain ⟨i, h1, h2, h3, h4, h5, h6⟩ := hG g hg
     have hst : snNum g.2.1 = true := by
      have := (snRight_fit.1 h6).1
      unfold snGFit at this
      refine (snNum_iff _).2 ?_
      split at this
      · omega
      · omega
     unfold snGOk
     rw [h1, h2, h3, hst]; rfl
   · cases hgs : s.gs with
     | nil => simp
     | cons g0 L =>
      have h0 : rGOk s.ps s.gs 0 g0 := e 0 g0 (by rw [hgs]; rfl)
      rw [List.map_cons]
      refine pw_chain _ _ fun i hi => ?_
      match i with
      | 0 => simp only [List.getElem_cons_zero, List.getElem_cons_succ]; have := h0.2.2.2.1; omega
      | j + 1 =>
       have hj1 : j + 1 < s.gs.length := by rw [hgs]; simpa using hi
       have h1 := e (j + 1) s.gs[j + 1] (List.getElem?_eq_getElem hj1)
       have h2 := h1.2.2.2.2.1 j rfl s.gs[j] (List.getElem?_eq_getElem (by omega))
       simp only [List.getElem_cons_succ]
       have e1 : (g0.1 :: L.map (·.1)) = s.gs.map (·.1) := by rw [hgs]; rfl
       have h3 : (g0.1 :: L.map (·.1))[j]'(by simp at hi ⊢; omega) = s.gs[j].1 := by simp only [e1, List.getElem_map]
       have h4 : (g0.1 :: L.map (·.1))[j + 1]'(by simp at hi ⊢; omega) = s.gs[j + 1].1 := by simp only [e1, List.getElem_map]
       simp only [List.getElem_cons_succ] at h4
       rw [h3, h4]
       exact h2
   · obtain ⟨i, hi⟩ := hG g hg
     exact (snRight_fit.1 hi.2.2.2.2.2).1
   · by_cases h0 : 0 < cntG s.gs m
     · obtain ⟨g, h1, h2⟩ := cntG_pos h0
       obtain ⟨i, hi⟩ := hG g h1
       have h3 := snRight_fit.1 hi.2.2.2.2.2
       have h4 : ¬ (g.2.1 = 1 ∨ g.2.1 = 3) := fun h => by
        have := h3.1
        unfold snGFit at this
        rw [if_pos h] at this
        exact hm (by rw [← h2]; exact this)
       have := h3.2 (by rw [h2]; exact hm) h4
       rw [h2] at this
       omega
     · omega
set_option maxRecDepth 100000 in
set_option maxHeartbeats 8000000 in
theorem rsnmay_in (time : Int) (ps : List (Int × Int)) (gs : List Gs4) (A B : Option Addr) (c d : Nat) (w : World) (h2 : RowsAt 2 snPCells w (.slice A ps.length c) ps) (h3 : RowsAt 4 snGCells w (.slice B gs.length d) gs) (hl1 : ps.length ≤ 10000) (hl2 : gs.length ≤ 10000) (r : Bool) (hr : Sn.may ⟨time, ps, gs⟩ = r) :
    Calls Tryd.prog 33 #[.agg #[.int .i64 time, .slice A ps.length c, .slice B gs.length d]] w fun e w' => e = .returned (.bool r) ∧ Ext w w' := by
 have HB := Lib.hid (blk_new w (.cells #[.int .i64 time, .slice A ps.length c, .slice B gs.length d] 25))
 have H2' := Lib.hid h2
 have H3' := Lib.hid h3
 have HD := Lib.hid (Sn.may_doc ⟨time, ps, gs⟩)
 have HNO : Hid (¬ (snNum time = true ∧ ps.length ≤ 64 ∧ gs.length ≤ 1000 ∧ (∀ (i : Nat) p, ps[i]? = some p → rPOk ps p) ∧ ∀ (i : Nat) g, gs[i]? = some g → rGOk ps gs i g) → r = false) := Lib.hid fun h => by
  rw [← hr]
  cases hm : Sn.may ⟨time, ps, gs⟩ with
  | false => rfl
  | true => exact absurd (HD.out.1 hm) h
 have HYES : Hid ((snNum time = true ∧ ps.length ≤ 64 ∧ gs.length ≤ 1000 ∧ (∀ (i : Nat) p, ps[i]? = some p → rPOk ps p) ∧ ∀ (i : Nat) g, gs[i]? = some g → rGOk ps gs i g) → r = true) := Lib.hid fun h => by
  rw [← hr]; exact HD.out.2 h
 clear h2 h3 hr HD
 obtain ⟨sb, hsb⟩ : ∃ b, w.heap.size = b := ⟨_, rfl⟩
 obtain ⟨w3, hw3⟩ : ∃ v, w.alloc (.cells #[.int .i64 time, .slice A ps.length c, .slice B gs.length d] 25) = v := ⟨_, rfl⟩
 have HX3 : Hid (Ext w w3) := Lib.hid (by rw [← hw3]; exact (Ext.refl w).alloc _)
 have HB3 : Hid (w3.heap[sb]? = some (.cells #[.int .i64 time, .slice A ps.length c, .slice B gs.length d] 25 (0, 0))) := Lib.hid (by rw [← hw3, ← hsb]; exact blk_new w _)
 have HSB := Lib.hid hsb
 have HW3 := Lib.hid hw3
 clear hsb hw3 HB
 obtain ⟨tf, htf⟩ : ∃ b, snNum time = b := ⟨_, rfl⟩
 have HTF := Lib.hid htf
 go_enter Tryd.func33, Tryd.ntmps33
 go_wp2_with fail
 refine (rfit_any time tf HTF.out _).mono ?_
 rintro e w2 ⟨rfl, rfl⟩
 rw [HW3.out]
 (try rw [HSB.out])
 clear HW3 HSB
 have HKS : Hid (∀ v, Ext w3 v → v.cell? ⟨sb, 0, none⟩ = some (.int .i64 time) ∧ v.cell? ⟨sb, 1, none⟩ = some (.slice A ps.length c) ∧ v.cell? ⟨sb, 2, none⟩ = some (.slice B gs.length d)) := Lib.hid fun v hv =>
  ⟨blk_cell (hv.blk HB3.out) 0 _ rfl, blk_cell (hv.blk HB3.out) 1 _ rfl, blk_cell (hv.blk HB3.out) 2 _ rfl⟩
 have H2 := Lib.hid (H2'.out.ext HX3.out)
 have H3 := Lib.hid (H3'.out.ext HX3.out)
 clear H2' H3' HB3
 obtain ⟨q0, q1, q2⟩ := HKS.out w3 (Ext.refl _)
 have HXR : Hid (Ext w3 w3) := Lib.hid (Ext.refl _)
 cases tf with
 | false =>
  obtain rfl := HNO.out fun h => by rw [HTF.out] at h; exact absurd h.1 (by decide)
  clear htf
  go_wp2
  go_ret
  exact ⟨rfl, HX3.out.trans HXR.out⟩
 | true =>
  clear htf
  by_cases h64 : ps.length ≤ 64
  · by_cases h1000 : gs.length ≤ 1000
    · have i64 : (ps.length : Int) ≤ 64 := by omega
      have i1000 : (gs.length : Int) ≤ 1000 := by omega
      have n64 : ¬ 64 < (ps.length : Int) := by omega
      have n1000 : ¬ 1000 < (gs.length : Int) := by omega
      go_wp2
      clear q0 q1 q2 HXR i64 i1000 n64 n1000
      go_loopw [3] (fun iv wr => ∃ k : Nat, k ≤ ps.length ∧ iv = .int .i64 k ∧ Hid (∀ (i : Nat) p, i < k → ps[i]? = some p → rPOk ps p) ∧ Ext w3 wr) (fun iv _ => ps.length - (intOf iv).toNat)
      case atStart => exact ⟨0, by omega, rfl, Lib.hid fun i p hi => absurd hi (by omega), Ext.refl _⟩
      case round =>
       obtain ⟨k, hk, rfl, HPO, hx⟩ := hrel
       have HX := Lib.hid hx
       obtain ⟨q0, q1, q2⟩ := HKS.out wr hx
       clear hx
       by_cases hlt : k < ps.length
       · obtain ⟨_, _, hv, hd, hA2⟩ := H2.out
         simp only [Value.slice.injEq, true_and] at hv
         obtain ⟨rfl, rfl⟩ := hv
         obtain ⟨bb, o, rfl, hbb, hcell⟩ := hA2 (by omega)
         have h0 := hcell k ps[k] (List.getElem?_eq_getElem hlt)
         have HPK : Hid (ps[k]? = some ps[k]) := Lib.hid (List.getElem?_eq_getElem hlt)
         clear hA2 hcell
         generalize ps[k] = p at *
         obtain ⟨p0, p1⟩ := p
         have HBAD : Hid (¬ rPOk ps (p0, p1) → r = false) := Lib.hid fun h => HNO.out fun hh => h (hh.2.2.2.1 k _ HPK.out)
         have HGOOD : Hid (rPOk ps (p0, p1) → ∀ (i : Nat) p, i < k + 1 → ps[i]? = some p → rPOk ps p) := Lib.hid fun h i p hi hp => by
          by_cases hik : i < k
          · exact HPO.out i p hik hp
          · obtain rfl : i = k := by omega
            rw [HPK.out] at hp
            injection hp with hp
            rw [← hp]; exact h
         have c0 : wr.cell? ⟨bb, o + k * 2, none⟩ = some (.int .i64 p0) := by rw [Below.cell HX.out hbb]; exact h0 0 _ rfl
         have c1 : wr.cell? ⟨bb, o + k * 2 + 1, none⟩ = some (.int .i64 p1) := by rw [Below.cell HX.out hbb]; exact h0 1 _ rfl
         obtain ⟨f0, hf0⟩ : ∃ b, snNum p0 = b := ⟨_, rfl⟩
         obtain ⟨f1, hf1⟩ : ∃ b, snNum p1 = b := ⟨_, rfl⟩
         have HF0 := Lib.hid hf0
         have HF1 := Lib.hid hf1
         have HXR : Hid (Ext w3 (wr.alloc (.cells #[.int .i64 p0, .int .i64 p1] 61))) := Lib.hid (HX.out.alloc _)
         have HBP := Lib.hid (blk_new wr (.cells #[.int .i64 p0, .int .i64 p1] 61))
         clear hf0 hf1 h0
         go_wp2_with fail
         refine (rfit_any p0 f0 HF0.out _).mono ?_
         rintro e w2 ⟨rfl, rfl⟩
         clear c0 c1 q0 q1 q2
         obtain ⟨q0, q1, q2⟩ := HKS.out _ HXR.out
         have x0 := blk_cell HBP.out 0 _ rfl
         have x1 := blk_cell HBP.out 1 _ rfl
         cases f0 with
         | false =>
          obtain rfl := HBAD.out fun h => by have := h.1; simp only at this; rw [HF0.out] at this; cases this
          go_wp2
          go_ret
          exact ⟨rfl, HX3.out.trans HXR.out⟩
         | true =>
          go_wp2_with fail
          refine (rfit_any p1 f1 HF1.out _).mono ?_
          rintro e w2 ⟨rfl, rfl⟩
          cases f1 with
          | false =>
           obtain rfl := HBAD.out fun h => by have := h.2.1; simp only at this; rw [HF1.out] at this; cases this
           go_wp2
           go_ret
           exact ⟨rfl, HX3.out.trans HXR.out⟩
          | true =>
           by_cases hp0 : p0 = 0
           · have e0 : (p0 != 0) = false := by simp [hp0]
             have HG := Lib.hid (HGOOD.out ⟨HF0.out, HF1.out, fun h => absurd hp0 h⟩)
             clear hp0
             go_wp2
             go_roundw
             case rel => exact ⟨k + 1, by omega, by go_num, HG, HXR.out⟩
             case measure => simp [intOf]; omega
           · have e0 : (p0 != 0) = true := by simp [hp0]
             obtain ⟨n, hn⟩ : ∃ n, (cntP ps p0 : Int) = n := ⟨_, rfl⟩
             have HN := Lib.hid hn
             clear hn
             go_wp2_with fail
             refine (rsnholds_kx _ ps p0 n _ HN.out (H2.out.ext HXR.out) (by omega)).mono ?_
             rintro e w2 ⟨rfl, rfl⟩
             by_cases hn1 : n = 1
             · have e1 : (n != 1) = false := by simp [hn1]
               have HG := Lib.hid (HGOOD.out ⟨HF0.out, HF1.out, fun _ => by have := HN.out; simp only; omega⟩)
               clear hp0 hn1
               go_wp2
               go_roundw
               case rel => exact ⟨k + 1, by omega, by go_num, HG, HXR.out⟩
               case measure => simp [intOf]; omega
             · have e1 : (n != 1) = true := by simp [hn1]
               obtain rfl := HBAD.out fun h => hn1 (by have := h.2.2 hp0; have h2 := HN.out; simp only at this; omega)
               clear hp0 hn1
               go_wp2
               go_ret
               exact ⟨rfl, HX3.out.trans HXR.out⟩
       · obtain rfl : k = ps.length := by omega
         have HPALL : Hid (∀ (i : Nat) p, ps[i]? = some p → rPOk ps p) := Lib.hid fun i p hp => HPO.out i p (List.getElem?_eq_some_iff.1 hp).1 hp
         go_wp2
         clear q0 q1 q2 HPO
         go_loopw [5] (fun iv wr => ∃ k : Nat, k ≤ gs.length ∧ iv = .int .i64 k ∧ Hid (∀ (i : Nat) g, i < k → gs[i]? = some g → rGOk ps gs i g) ∧ Ext w3 wr) (fun iv _ => gs.length - (intOf iv).toNat)
         case atStart => exact ⟨0, by omega, rfl, Lib.hid fun i p hi => absurd hi (by omega), HX.out⟩
         case round =>
          clear HX
          obtain ⟨k, hk, rfl, HGO, hx⟩ := hrel
          have HX := Lib.hid hx
          obtain ⟨q0, q1, q2⟩ := HKS.out wr hx
          clear hx
          by_cases hlt : k < gs.length
          · obtain ⟨_, _, hv, hd, hA3⟩ := H3.out
            simp only [Value.slice.injEq, true_and] at hv
            obtain ⟨rfl, rfl⟩ := hv
            obtain ⟨bb, o, rfl, hbb, hcell⟩ := hA3 (by omega)
            have h0 := hcell k gs[k] (List.getElem?_eq_getElem hlt)
            have HPK : Hid (gs[k]? = some gs[k]) := Lib.hid (List.getElem?_eq_getElem hlt)
            have HCELL : Hid (∀ (j : Nat) p, gs[j]? = some p → ∀ v, Ext w3 v → v.cell? ⟨bb, o + j * 4, none⟩ = some (.int .i64 p.1)) := Lib.hid fun j p hj v hv => by
             rw [Below.cell hv hbb]
             exact hcell j p hj 0 _ rfl
            clear hA3 hcell
            generalize gs[k] = p at *
            obtain ⟨g, st, m, q⟩ := p
            have HBAD : Hid (¬ rGOk ps gs k (g, st, m, q) → r = false) := Lib.hid fun h => HNO.out fun hh => h (hh.2.2.2.2 k _ HPK.out)
            have HGOOD : Hid (rGOk ps gs k (g, st, m, q) → ∀ (i : Nat) p, i < k + 1 → gs[i]? = some p → rGOk ps gs i p) := Lib.hid fun h i p hi hp => by
             by_cases hik : i < k
             · exact HGO.out i p hik hp
             · obtain rfl : i = k := by omega
               rw [HPK.out] at hp
               injection hp with hp
               rw [← hp]; exact h
            have c0 : wr.cell? ⟨bb, o + k * 4, none⟩ = some (.int .i64 g) := by rw [Below.cell HX.out hbb]; exact h0 0 _ rfl
            have c1 : wr.cell? ⟨bb, o + k * 4 + 1, none⟩ = some (.int .i64 st) := by rw [Below.cell HX.out hbb]; exact h0 1 _ rfl
            have c2 : wr.cell? ⟨bb, o + k * 4 + 2, none⟩ = some (.int .i64 m) := by rw [Below.cell HX.out hbb]; exact h0 2 _ rfl
            have c3 : wr.cell? ⟨bb, o + k * 4 + 3, none⟩ = some (.int .i64 q) := by rw [Below.cell HX.out hbb]; exact h0 3 _ rfl
            have HKG0 : Hid (∀ v, Ext (wr.alloc (.cells #[.int .i64 g, .int .i64 st, .int .i64 m, .int .i64 q] 49)) v → v.cell? ⟨wr.heap.size, 0, none⟩ = some (.int .i64 g) ∧ v.cell? ⟨wr.heap.size, 1, none⟩ = some (.int .i64 st) ∧ v.cell? ⟨wr.heap.size, 2, none⟩ = some (.int .i64 m) ∧ v.cell? ⟨wr.heap.size, 3, none⟩ = some (.int .i64 q)) := Lib.hid fun v hv =>
             have hb := hv.blk (blk_new wr (.cells #[.int .i64 g, .int .i64 st, .int .i64 m, .int .i64 q] 49))
             ⟨blk_cell hb 0 _ rfl, blk_cell hb 1 _ rfl, blk_cell hb 2 _ rfl, blk_cell hb 3 _ rfl⟩
            have HXG0 : Hid (Ext w3 (wr.alloc (.cells #[.int .i64 g, .int .i64 st, .int .i64 m, .int .i64 q] 49))) := Lib.hid (HX.out.alloc _)
            clear h0
            go_upto_region 13 with fail
            clear c0 c1 c2 c3 q0 q1 q2
            generalize hwG : wr.alloc (.cells #[.int .i64 g, .int .i64 st, .int .i64 m, .int .i64 q] 49) = wG at *
            generalize hgb : wr.heap.size = gb at *
            have HKG := Lib.hid HKG0.out
            have HXG := Lib.hid HXG0.out
            clear HKG0 HXG0 hwG hgb HX wr
            obtain ⟨fg, hfg⟩ : ∃ b, snNum g = b := ⟨_, rfl⟩
            obtain ⟨fm, hfm⟩ : ∃ b, snNum m = b := ⟨_, rfl⟩
            obtain ⟨fq, hfq⟩ : ∃ b, snNum q = b := ⟨_, rfl⟩
            obtain ⟨rr, hrt⟩ : ∃ b, snRight ps gs st m = b := ⟨_, rfl⟩
            have HFg := Lib.hid hfg
            have HFm := Lib.hid hfm
            have HFq := Lib.hid hfq
            have HRT := Lib.hid hrt
            clear hfg hfm hfq hrt
            have hlt1 : True := trivial
            cases fg with
            | false =>
             obtain rfl := HBAD.out fun h => by have := h.1; simp only at this; rw [HFg.out] at this; cases this
             refine region_rgx ([(2, (fun y => y = .bool false : Value → Prop), (fun _ _ => True : (Nat → GV) → World → Prop))]) (wG) (by kernel_rfl) (by kernel_rfl) ?_ ?_ ?_
             · exact List.forall_mem_cons.2 ⟨⟨⟨_, rfl⟩, fun _ _ _ _ _ => trivial, fun _ _ _ _ _ => trivial⟩, List.forall_mem_nil _⟩
             · first | assumption | exact Ext.refl _
             refine rg_pure (v := ?_) rfl (by kernel_rfl) (by kernel_rfl) (fun w hS hN => ?_) ?_
             rotate_left 1
             · clear hN
               go_simp
               try simp only [hlt1]
               refine givesP_mk ?_
               with_reducible rfl
             refine rg_pure (v := ?_) rfl (by kernel_rfl) (by kernel_rfl) (fun w hS hN => ?_) ?_
             rotate_left 1
             · obtain ⟨k0, k1, k2, k3⟩ := HKG.out w hS
               clear hN
               go_simp
               try simp only [hlt1]
               refine givesP_mk ?_
               with_reducible rfl
             refine rg_mem (fun y => y = .bool false : Value → Prop) (fun _ _ => True : (Nat → GV) → World → Prop) (fun _ => Ext) rfl rfl rfl rfl (by kernel_rfl) (by kernel_rfl) (fun w hS hN R hR => ?_) ?_
             · have HR := Lib.hid hR
               clear hR
               (try clear hN)
               go_simp
               refine givesM_call ((rfit_any g false HFg.out w).mono ?_)
               rintro e w' ⟨rfl, rfl⟩
               exact ⟨_, rfl, HR.out _ _ rfl trivial (Ext.refl _)⟩
             rintro u2 s2 t2 rfl
             iterate 2
              refine rg_pure (v := ?_) rfl (by kernel_rfl) (by kernel_rfl) (fun w hS hN => ?_) ?_
              rotate_left 1
              · clear hN
                go_simp
                try simp only [hlt1]
                refine givesP_mk ?_
                with_reducible rfl
             iterate 4
              refine rg_no rfl (by kernel_rfl) (by kernel_rfl) ?_
             iterate 2
              refine rg_pure (v := ?_) rfl (by kernel_rfl) (by kernel_rfl) (fun w hS hN => ?_) ?_
              rotate_left 1
              · clear hN
                go_simp
                try simp only [hlt1]
                refine givesP_mk ?_
                with_reducible rfl
             iterate 4
              refine rg_no rfl (by kernel_rfl) (by kernel_rfl) ?_
             iterate 2
              refine rg_pure (v := ?_) rfl (by kernel_rfl) (by kernel_rfl) (fun w hS hN => ?_) ?_
              rotate_left 1
              · clear hN
                go_simp
                try simp only [hlt1]
                refine givesP_mk ?_
                with_reducible rfl
             iterate 3
              refine rg_no rfl (by kernel_rfl) (by kernel_rfl) ?_
             iterate 2
              refine rg_pure (v := ?_) rfl (by kernel_rfl) (by kernel_rfl) (fun w hS hN => ?_) ?_
              rotate_left 1
              · clear hN
                go_simp
                try simp only [hlt1]
                refine givesP_mk ?_
                with_reducible rfl
             iterate 14
              refine rg_no rfl (by kernel_rfl) (by kernel_rfl) ?_
             iterate 2
              refine rg_pure (v := ?_) rfl (by kernel_rfl) (by kernel_rfl) (fun w hS hN => ?_) ?_
              rotate_left 1
              · clear hN
                go_simp
                try simp only [hlt1]
                refine givesP_mk ?_
                with_reducible rfl
             iterate 4
              refine rg_no rfl (by kernel_rfl) (by kernel_rfl) ?_
             refine rg_pure (v := ?_) rfl (by kernel_rfl) (by kernel_rfl) (fun w hS hN => ?_) ?_
             rotate_left 1
             · clear hN
               go_simp
               try simp only [hlt1]
               refine givesP_mk ?_
               with_reducible rfl
             refine rg_done rfl (Nat.le_of_ble_eq_true (by kernel_rfl)) ?_
             intro w8 hS hT
             have HX8 := Lib.hid (HXG.out.trans hS)
             clear hT hS
             go_simp
             go_wp2
             go_ret
             exact ⟨rfl, HX3.out.trans HX8.out⟩
            | true =>
             cases fm with
             | false =>
              obtain rfl := HBAD.out fun h => by have := h.2.1; simp only at this; rw [HFm.out] at this; cases this
              refine region_rgx ([(2, (fun y => y = .bool true : Value → Prop), (fun _ _ => True : (Nat → GV) → World → Prop)), (7, (fun y => y = .bool false : Value → Prop), (fun _ _ => True : (Nat → GV) → World → Prop))]) (wG) (by kernel_rfl) (by kernel_rfl) ?_ ?_ ?_
              · exact List.forall_mem_cons.2 ⟨⟨⟨_, rfl⟩, fun _ _ _ _ _ => trivial, fun _ _ _ _ _ => trivial⟩, List.forall_mem_cons.2 ⟨⟨⟨_, rfl⟩, fun _ _ _ _ _ => trivial, fun _ _ _ _ _ => trivial⟩, List.forall_mem_nil _⟩⟩
              · first | assumption | exact Ext.refl _
              refine rg_pure (v := ?_) rfl (by kernel_rfl) (by kernel_rfl) (fun w hS hN => ?_) ?_
              rotate_left 1
              · clear hN
                go_simp
                try simp only [hlt1]
                refine givesP_mk ?_
                with_reducible rfl
              refine rg_pure (v := ?_) rfl (by kernel_rfl) (by kernel_rfl) (fun w hS hN => ?_) ?_
              rotate_left 1
              · obtain ⟨k0, k1, k2, k3⟩ := HKG.out w hS
                clear hN
                go_simp
                try simp only [hlt1]
                refine givesP_mk ?_
                with_reducible rfl
              refine rg_mem (fun y => y = .bool true : Value → Prop) (fun _ _ => True : (Nat → GV) → World → Prop) (fun _ => Ext) rfl rfl rfl rfl (by kernel_rfl) (by kernel_rfl) (fun w hS hN R hR => ?_) ?_
              · have HR := Lib.hid hR
                clear hR
                (try clear hN)
                go_simp
                refine givesM_call ((rfit_any g true HFg.out w).mono ?_)
                rintro e w' ⟨rfl, rfl⟩
                exact ⟨_, rfl, HR.out _ _ rfl trivial (Ext.refl _)⟩
              rintro u2 s2 t2 rfl
              iterate 3
               refine rg_pure (v := ?_) rfl (by kernel_rfl) (by kernel_rfl) (fun w hS hN => ?_) ?_
               rotate_left 1
               · clear hN
                 go_simp
                 try simp only [hlt1]
                 refine givesP_mk ?_
                 with_reducible rfl
              refine rg_pure (v := ?_) rfl (by kernel_rfl) (by kernel_rfl) (fun w hS hN => ?_) ?_
              rotate_left 1
              · obtain ⟨k0, k1, k2, k3⟩ := HKG.out w hS
                clear hN
                go_simp
                try simp only [hlt1]
                refine givesP_mk ?_
                with_reducible rfl
              refine rg_mem (fun y => y = .bool false : Value → Prop) (fun _ _ => True : (Nat → GV) → World → Prop) (fun _ => Ext) rfl rfl rfl rfl (by kernel_rfl) (by kernel_rfl) (fun w hS hN R hR => ?_) ?_
              · have HR := Lib.hid hR
                clear hR
                (try clear hN)
                go_simp
                refine givesM_call ((rfit_any m false HFm.out w).mono ?_)
                rintro e w' ⟨rfl, rfl⟩
                exact ⟨_, rfl, HR.out _ _ rfl trivial (Ext.refl _)⟩
              rintro u7 s7 t7 rfl
              iterate 3
               refine rg_pure (v := ?_) rfl (by kernel_rfl) (by kernel_rfl) (fun w hS hN => ?_) ?_
               rotate_left 1
               · clear hN
                 go_simp
                 try simp only [hlt1]
                 refine givesP_mk ?_
                 with_reducible rfl
              iterate 4
               refine rg_no rfl (by kernel_rfl) (by kernel_rfl) ?_
              iterate 2
               refine rg_pure (v := ?_) rfl (by kernel_rfl) (by kernel_rfl) (fun w hS hN => ?_) ?_
               rotate_left 1
               · clear hN
                 go_simp
                 try simp only [hlt1]
                 refine givesP_mk ?_
                 with_reducible rfl
              iterate 3
               refine rg_no rfl (by kernel_rfl) (by kernel_rfl) ?_
              iterate 2
               refine rg_pure (v := ?_) rfl (by kernel_rfl) (by kernel_rfl) (fun w hS hN => ?_) ?_
               rotate_left 1
               · clear hN
                 go_simp
                 try simp only [hlt1]
                 refine givesP_mk ?_
                 with_reducible rfl
              iterate 14
               refine rg_no rfl (by kernel_rfl) (by kernel_rfl) ?_
              iterate 2
               refine rg_pure (v := ?_) rfl (by kernel_rfl) (by kernel_rfl) (fun w hS hN => ?_) ?_
               rotate_left 1
               · clear hN
                 go_simp
                 try simp only [hlt1]
                 refine givesP_mk ?_
                 with_reducible rfl
              iterate 4
               refine rg_no rfl (by kernel_rfl) (by kernel_rfl) ?_
              refine rg_pure (v := ?_) rfl (by kernel_rfl) (by kernel_rfl) (fun w hS hN => ?_) ?_
              rotate_left 1
              · clear hN
                go_simp
                try simp only [hlt1]
                refine givesP_mk ?_
                with_reducible rfl
              refine rg_done rfl (Nat.le_of_ble_eq_true (by kernel_rfl)) ?_
              intro w8 hS hT
              have HX8 := Lib.hid (HXG.out.trans hS)
              clear hT hS
              go_simp
              go_wp2
              go_ret
              exact ⟨rfl, HX3.out.trans HX8.out⟩
             | true =>
              cases fq with
              | false =>
               obtain rfl := HBAD.out fun h => by have := h.2.2.1; simp only at this; rw [HFq.out] at this; cases this
               refine region_rgx ([(2, (fun y => y = .bool true : Value → Prop), (fun _ _ => True : (Nat → GV) → World → Prop)), (7, (fun y => y = .bool true : Value → Prop), (fun _ _ => True : (Nat → GV) → World → Prop)), (13, (fun y => y = .bool false : Value → Prop), (fun _ _ => True : (Nat → GV) → World → Prop))]) (wG) (by kernel_rfl) (by kernel_rfl) ?_ ?_ ?_
               · exact List.forall_mem_cons.2 ⟨⟨⟨_, rfl⟩, fun _ _ _ _ _ => trivial, fun _ _ _ _ _ => trivial⟩, List.forall_mem_cons.2 ⟨⟨⟨_, rfl⟩, fun _ _ _ _ _ => trivial, fun _ _ _ _ _ => trivial⟩, List.forall_mem_cons.2 ⟨⟨⟨_, rfl⟩, fun _ _ _ _ _ => trivial, fun _ _ _ _ _ => trivial⟩, List.forall_mem_nil _⟩⟩⟩
               · first | assumption | exact Ext.refl _
               refine rg_pure (v := ?_) rfl (by kernel_rfl) (by kernel_rfl) (fun w hS hN => ?_) ?_
               rotate_left 1
               · clear hN
                 go_simp
                 try simp only [hlt1]
                 refine givesP_mk ?_
                 with_reducible rfl
               refine rg_pure (v := ?_) rfl (by kernel_rfl) (by kernel_rfl) (fun w hS hN => ?_) ?_
               rotate_left 1
               · obtain ⟨k0, k1, k2, k3⟩ := HKG.out w hS
                 clear hN
                 go_simp
                 try simp only [hlt1]
                 refine givesP_mk ?_
                 with_reducible rfl
               refine rg_mem (fun y => y = .bool true : Value → Prop) (fun _ _ => True : (Nat → GV) → World → Prop) (fun _ => Ext) rfl rfl rfl rfl (by kernel_rfl) (by kernel_rfl) (fun w hS hN R hR => ?_) ?_
               · have HR := Lib.hid hR
                 clear hR
                 (try clear hN)
                 go_simp
                 refine givesM_call ((rfit_any g true HFg.out w).mono ?_)
                 rintro e w' ⟨rfl, rfl⟩
                 exact ⟨_, rfl, HR.out _ _ rfl trivial (Ext.refl _)⟩
               rintro u2 s2 t2 rfl
               iterate 3
                refine rg_pure (v := ?_) rfl (by kernel_rfl) (by kernel_rfl) (fun w hS hN => ?_) ?_
                rotate_left 1
                · clear hN
                  go_simp
                  try simp only [hlt1]
                  refine givesP_mk ?_
                  with_reducible rfl
               refine rg_pure (v := ?_) rfl (by kernel_rfl) (by kernel_rfl) (fun w hS hN => ?_) ?_
               rotate_left 1
               · obtain ⟨k0, k1, k2, k3⟩ := HKG.out w hS
                 clear hN
                 go_simp
                 try simp only [hlt1]
                 refine givesP_mk ?_
                 with_reducible rfl
               refine rg_mem (fun y => y = .bool true : Value → Prop) (fun _ _ => True : (Nat → GV) → World → Prop) (fun _ => Ext) rfl rfl rfl rfl (by kernel_rfl) (by kernel_rfl) (fun w hS hN R hR => ?_) ?_
               · have HR := Lib.hid hR
                 clear hR
                 (try clear hN)
                 go_simp
                 refine givesM_call ((rfit_any m true HFm.out w).mono ?_)
                 rintro e w' ⟨rfl, rfl⟩
                 exact ⟨_, rfl, HR.out _ _ rfl trivial (Ext.refl _)⟩
               rintro u7 s7 t7 rfl
               iterate 4
                refine rg_pure (v := ?_) rfl (by kernel_rfl) (by kernel_rfl) (fun w hS hN => ?_) ?_
                rotate_left 1
                · clear hN
                  go_simp
                  try simp only [hlt1]
                  refine givesP_mk ?_
                  with_reducible rfl
               refine rg_pure (v := ?_) rfl (by kernel_rfl) (by kernel_rfl) (fun w hS hN => ?_) ?_
               rotate_left 1
               · obtain ⟨k0, k1, k2, k3⟩ := HKG.out w hS
                 clear hN
                 go_simp
                 try simp only [hlt1]
                 refine givesP_mk ?_
                 with_reducible rfl
               refine rg_mem (fun y => y = .bool false : Value → Prop) (fun _ _ => True : (Nat → GV) → World → Prop) (fun _ => Ext) rfl rfl rfl rfl (by kernel_rfl) (by kernel_rfl) (fun w hS hN R hR => ?_) ?_
               · have HR := Lib.hid hR
                 clear hR
                 (try clear hN)
                 go_simp
                 refine givesM_call ((rfit_any q false HFq.out w).mono ?_)
                 rintro e w' ⟨rfl, rfl⟩
                 exact ⟨_, rfl, HR.out _ _ rfl trivial (Ext.refl _)⟩
               rintro u13 s13 t13 rfl
               iterate 3
                refine rg_pure (v := ?_) rfl (by kernel_rfl) (by kernel_rfl) (fun w hS hN => ?_) ?_
                rotate_left 1
                · clear hN
                  go_simp
                  try simp only [hlt1]
                  refine givesP_mk ?_
                  with_reducible rfl
               iterate 3
                refine rg_no rfl (by kernel_rfl) (by kernel_rfl) ?_
               iterate 2
                refine rg_pure (v := ?_) rfl (by kernel_rfl) (by kernel_rfl) (fun w hS hN => ?_) ?_
                rotate_left 1
                · clear hN
                  go_simp
                  try simp only [hlt1]
                  refine givesP_mk ?_
                  with_reducible rfl
               iterate 14
                refine rg_no rfl (by kernel_rfl) (by kernel_rfl) ?_
               iterate 2
                refine rg_pure (v := ?_) rfl (by kernel_rfl) (by kernel_rfl) (fun w hS hN => ?_) ?_
                rotate_left 1
                · clear hN
                  go_simp
                  try simp only [hlt1]
                  refine givesP_mk ?_
                  with_reducible rfl
               iterate 4
                refine rg_no rfl (by kernel_rfl) (by kernel_rfl) ?_
               refine rg_pure (v := ?_) rfl (by kernel_rfl) (by kernel_rfl) (fun w hS hN => ?_) ?_
               rotate_left 1
               · clear hN
                 go_simp
                 try simp only [hlt1]
                 refine givesP_mk ?_
                 with_reducible rfl
               refine rg_done rfl (Nat.le_of_ble_eq_true (by kernel_rfl)) ?_
               intro w8 hS hT
               have HX8 := Lib.hid (HXG.out.trans hS)
               clear hT hS
               go_simp
               go_wp2
               go_ret
               exact ⟨rfl, HX3.out.trans HX8.out⟩
              | true =>
               by_cases hg1 : g < 1
               · have hlt1 : decide (g < 1) = true := by simp [hg1]
                 obtain rfl := HBAD.out fun h => by have := h.2.2.2.1; simp only at this; omega
                 clear hg1
                 refine region_rgx ([(2, (fun y => y = .bool true : Value → Prop), (fun _ _ => True : (Nat → GV) → World → Prop)), (7, (fun y => y = .bool true : Value → Prop), (fun _ _ => True : (Nat → GV) → World → Prop)), (13, (fun y => y = .bool true : Value → Prop), (fun _ _ => True : (Nat → GV) → World → Prop))]) (wG) (by kernel_rfl) (by kernel_rfl) ?_ ?_ ?_
                 · exact List.forall_mem_cons.2 ⟨⟨⟨_, rfl⟩, fun _ _ _ _ _ => trivial, fun _ _ _ _ _ => trivial⟩, List.forall_mem_cons.2 ⟨⟨⟨_, rfl⟩, fun _ _ _ _ _ => trivial, fun _ _ _ _ _ => trivial⟩, List.forall_mem_cons.2 ⟨⟨⟨_, rfl⟩, fun _ _ _ _ _ => trivial, fun _ _ _ _ _ => trivial⟩, List.forall_mem_nil _⟩⟩⟩
                 · first | assumption | exact Ext.refl _
                 refine rg_pure (v := ?_) rfl (by kernel_rfl) (by kernel_rfl) (fun w hS hN => ?_) ?_
                 rotate_left 1
                 · clear hN
                   go_simp
                   try simp only [hlt1]
                   refine givesP_mk ?_
                   with_reducible rfl
                 refine rg_pure (v := ?_) rfl (by kernel_rfl) (by kernel_rfl) (fun w hS hN => ?_) ?_
                 rotate_left 1
                 · obtain ⟨k0, k1, k2, k3⟩ := HKG.out w hS
                   clear hN
                   go_simp
                   try simp only [hlt1]
                   refine givesP_mk ?_
                   with_reducible rfl
                 refine rg_mem (fun y => y = .bool true : Value → Prop) (fun _ _ => True : (Nat → GV) → World → Prop) (fun _ => Ext) rfl rfl rfl rfl (by kernel_rfl) (by kernel_rfl) (fun w hS hN R hR => ?_) ?_
                 · have HR := Lib.hid hR
                   clear hR
                   (try clear hN)
                   go_simp
                   refine givesM_call ((rfit_any g true HFg.out w).mono ?_)
                   rintro e w' ⟨rfl, rfl⟩
                   exact ⟨_, rfl, HR.out _ _ rfl trivial (Ext.refl _)⟩
                 rintro u2 s2 t2 rfl
                 iterate 3
                  refine rg_pure (v := ?_) rfl (by kernel_rfl) (by kernel_rfl) (fun w hS hN => ?_) ?_
                  rotate_left 1
                  · clear hN
                    go_simp
                    try simp only [hlt1]
                    refine givesP_mk ?_
                    with_reducible rfl
                 refine rg_pure (v := ?_) rfl (by kernel_rfl) (by kernel_rfl) (fun w hS hN => ?_) ?_
                 rotate_left 1
                 · obtain ⟨k0, k1, k2, k3⟩ := HKG.out w hS
                   clear hN
                   go_simp
                   try simp only [hlt1]
                   refine givesP_mk ?_
                   with_reducible rfl
                 refine rg_mem (fun y => y = .bool true : Value → Prop) (fun _ _ => True : (Nat → GV) → World → Prop) (fun _ => Ext) rfl rfl rfl rfl (by kernel_rfl) (by kernel_rfl) (fun w hS hN R hR => ?_) ?_
                 · have HR := Lib.hid hR
                   clear hR
                   (try clear hN)
                   go_simp
                   refine givesM_call ((rfit_any m true HFm.out w).mono ?_)
                   rintro e w' ⟨rfl, rfl⟩
                   exact ⟨_, rfl, HR.out _ _ rfl trivial (Ext.refl _)⟩
                 rintro u7 s7 t7 rfl
                 iterate 4
                  refine rg_pure (v := ?_) rfl (by kernel_rfl) (by kernel_rfl) (fun w hS hN => ?_) ?_
                  rotate_left 1
                  · clear hN
                    go_simp
                    try simp only [hlt1]
                    refine givesP_mk ?_
                    with_reducible rfl
                 refine rg_pure (v := ?_) rfl (by kernel_rfl) (by kernel_rfl) (fun w hS hN => ?_) ?_
                 rotate_left 1
                 · obtain ⟨k0, k1, k2, k3⟩ := HKG.out w hS
                   clear hN
                   go_simp
                   try simp only [hlt1]
                   refine givesP_mk ?_
                   with_reducible rfl
                 refine rg_mem (fun y => y = .bool true : Value → Prop) (fun _ _ => True : (Nat → GV) → World → Prop) (fun _ => Ext) rfl rfl rfl rfl (by kernel_rfl) (by kernel_rfl) (fun w hS hN R hR => ?_) ?_
                 · have HR := Lib.hid hR
                   clear hR
                   (try clear hN)
                   go_simp
                   refine givesM_call ((rfit_any q true HFq.out w).mono ?_)
                   rintro e w' ⟨rfl, rfl⟩
                   exact ⟨_, rfl, HR.out _ _ rfl trivial (Ext.refl _)⟩
                 rintro u13 s13 t13 rfl
                 iterate 4
                  refine rg_pure (v := ?_) rfl (by kernel_rfl) (by kernel_rfl) (fun w hS hN => ?_) ?_
                  rotate_left 1
                  · clear hN
                    go_simp
                    try simp only [hlt1]
                    refine givesP_mk ?_
                    with_reducible rfl
                 refine rg_pure (v := ?_) rfl (by kernel_rfl) (by kernel_rfl) (fun w hS hN => ?_) ?_
                 rotate_left 1
                 · obtain ⟨k0, k1, k2, k3⟩ := HKG.out w hS
                   clear hN
                   go_simp
                   try simp only [hlt1]
                   refine givesP_mk ?_
                   with_reducible rfl
                 iterate 3
                  refine rg_pure (v := ?_) rfl (by kernel_rfl) (by kernel_rfl) (fun w hS hN => ?_) ?_
                  rotate_left 1
                  · clear hN
                    go_simp
                    try simp only [hlt1]
                    refine givesP_mk ?_
                    with_reducible rfl
                 iterate 14
                  refine rg_no rfl (by kernel_rfl) (by kernel_rfl) ?_
                 iterate 2
                  refine rg_pure (v := ?_) rfl (by kernel_rfl) (by kernel_rfl) (fun w hS hN => ?_) ?_
                  rotate_left 1
                  · clear hN
                    go_simp
                    try simp only [hlt1]
                    refine givesP_mk ?_
                    with_reducible rfl
                 iterate 4
                  refine rg_no rfl (by kernel_rfl) (by kernel_rfl) ?_
                 refine rg_pure (v := ?_) rfl (by kernel_rfl) (by kernel_rfl) (fun w hS hN => ?_) ?_
                 rotate_left 1
                 · clear hN
                   go_simp
                   try simp only [hlt1]
                   refine givesP_mk ?_
                   with_reducible rfl
                 refine rg_done rfl (Nat.le_of_ble_eq_true (by kernel_rfl)) ?_
                 intro w8 hS hT
                 have HX8 := Lib.hid (HXG.out.trans hS)
                 clear hT hS
                 go_simp
                 go_wp2
                 go_ret
                 exact ⟨rfl, HX3.out.trans HX8.out⟩
               · have hlt1 : decide (g < 1) = false := by simp; omega
                 match hkk : k with
                 | 0 =>
                  have HKK := Lib.hid hkk
                  clear hkk
                  have HOK : Hid (rr = true → rGOk ps gs 0 (g, st, m, q)) := Lib.hid fun h => ⟨HFg.out, HFm.out, HFq.out, by simp only; omega, fun j hj => by omega, by simp only; rw [HRT.out, h]⟩
                  have HNK : Hid (rr = false → r = false) := Lib.hid fun h => HBAD.out fun hh => by have := hh.2.2.2.2.2; simp only at this; rw [HRT.out, h] at this; cases this
                  clear hg1
                  refine region_rgx ([(2, (fun y => y = .bool true : Value → Prop), (fun _ _ => True : (Nat → GV) → World → Prop)), (7, (fun y => y = .bool true : Value → Prop), (fun _ _ => True : (Nat → GV) → World → Prop)), (13, (fun y => y = .bool true : Value → Prop), (fun _ _ => True : (Nat → GV) → World → Prop)), (40, (fun y => y = .bool rr : Value → Prop), (fun _ _ => True : (Nat → GV) → World → Prop))]) (wG) (by kernel_rfl) (by kernel_rfl) ?_ ?_ ?_
                  · exact List.forall_mem_cons.2 ⟨⟨⟨_, rfl⟩, fun _ _ _ _ _ => trivial, fun _ _ _ _ _ => trivial⟩, List.forall_mem_cons.2 ⟨⟨⟨_, rfl⟩, fun _ _ _ _ _ => trivial, fun _ _ _ _ _ => trivial⟩, List.forall_mem_cons.2 ⟨⟨⟨_, rfl⟩, fun _ _ _ _ _ => trivial, fun _ _ _ _ _ => trivial⟩, List.forall_mem_cons.2 ⟨⟨⟨_, rfl⟩, fun _ _ _ _ _ => trivial, fun _ _ _ _ _ => trivial⟩, List.forall_mem_nil _⟩⟩⟩⟩
                  · first | assumption | exact Ext.refl _
                  refine rg_pure (v := ?_) rfl (by kernel_rfl) (by kernel_rfl) (fun w hS hN => ?_) ?_
                  rotate_left 1
                  · clear hN
                    go_simp
                    try simp only [hlt1]
                    refine givesP_mk ?_
                    with_reducible rfl
                  refine rg_pure (v := ?_) rfl (by kernel_rfl) (by kernel_rfl) (fun w hS hN => ?_) ?_
                  rotate_left 1
                  · obtain ⟨k0, k1, k2, k3⟩ := HKG.out w hS
                    clear hN
                    go_simp
                    try simp only [hlt1]
                    refine givesP_mk ?_
                    with_reducible rfl
                  refine rg_mem (fun y => y = .bool true : Value → Prop) (fun _ _ => True : (Nat → GV) → World → Prop) (fun _ => Ext) rfl rfl rfl rfl (by kernel_rfl) (by kernel_rfl) (fun w hS hN R hR => ?_) ?_
                  · have HR := Lib.hid hR
                    clear hR
                    (try clear hN)
                    go_simp
                    refine givesM_call ((rfit_any g true HFg.out w).mono ?_)
                    rintro e w' ⟨rfl, rfl⟩
                    exact ⟨_, rfl, HR.out _ _ rfl trivial (Ext.refl _)⟩
                  rintro u2 s2 t2 rfl
                  iterate 3
                   refine rg_pure (v := ?_) rfl (by kernel_rfl) (by kernel_rfl) (fun w hS hN => ?_) ?_
                   rotate_left 1
                   · clear hN
                     go_simp
                     try simp only [hlt1]
                     refine givesP_mk ?_
                     with_reducible rfl
                  refine rg_pure (v := ?_) rfl (by kernel_rfl) (by kernel_rfl) (fun w hS hN => ?_) ?_
                  rotate_left 1
                  · obtain ⟨k0, k1, k2, k3⟩ := HKG.out w hS
                    clear hN
                    go_simp
                    try simp only [hlt1]
                    refine givesP_mk ?_
                    with_reducible rfl
                  refine rg_mem (fun y => y = .bool true : Value → Prop) (fun _ _ => True : (Nat → GV) → World → Prop) (fun _ => Ext) rfl rfl rfl rfl (by kernel_rfl) (by kernel_rfl) (fun w hS hN R hR => ?_) ?_
                  · have HR := Lib.hid hR
                    clear hR
                    (try clear hN)
                    go_simp
                    refine givesM_call ((rfit_any m true HFm.out w).mono ?_)
                    rintro e w' ⟨rfl, rfl⟩
                    exact ⟨_, rfl, HR.out _ _ rfl trivial (Ext.refl _)⟩
                  rintro u7 s7 t7 rfl
                  iterate 4
                   refine rg_pure (v := ?_) rfl (by kernel_rfl) (by kernel_rfl) (fun w hS hN => ?_) ?_
                   rotate_left 1
                   · clear hN
                     go_simp
                     try simp only [hlt1]
                     refine givesP_mk ?_
                     with_reducible rfl
                  refine rg_pure (v := ?_) rfl (by kernel_rfl) (by kernel_rfl) (fun w hS hN => ?_) ?_
                  rotate_left 1
                  · obtain ⟨k0, k1, k2, k3⟩ := HKG.out w hS
                    clear hN
                    go_simp
                    try simp only [hlt1]
                    refine givesP_mk ?_
                    with_reducible rfl
                  refine rg_mem (fun y => y = .bool true : Value → Prop) (fun _ _ => True : (Nat → GV) → World → Prop) (fun _ => Ext) rfl rfl rfl rfl (by kernel_rfl) (by kernel_rfl) (fun w hS hN R hR => ?_) ?_
                  · have HR := Lib.hid hR
                    clear hR
                    (try clear hN)
                    go_simp
                    refine givesM_call ((rfit_any q true HFq.out w).mono ?_)
                    rintro e w' ⟨rfl, rfl⟩
                    exact ⟨_, rfl, HR.out _ _ rfl trivial (Ext.refl _)⟩
                  rintro u13 s13 t13 rfl
                  iterate 4
                   refine rg_pure (v := ?_) rfl (by kernel_rfl) (by kernel_rfl) (fun w hS hN => ?_) ?_
                   rotate_left 1
                   · clear hN
                     go_simp
                     try simp only [hlt1]
                     refine givesP_mk ?_
                     with_reducible rfl
                  refine rg_pure (v := ?_) rfl (by kernel_rfl) (by kernel_rfl) (fun w hS hN => ?_) ?_
                  rotate_left 1
                  · obtain ⟨k0, k1, k2, k3⟩ := HKG.out w hS
                    clear hN
                    go_simp
                    try simp only [hlt1]
                    refine givesP_mk ?_
                    with_reducible rfl
                  iterate 6
                   refine rg_pure (v := ?_) rfl (by kernel_rfl) (by kernel_rfl) (fun w hS hN => ?_) ?_
                   rotate_left 1
                   · clear hN
                     go_simp
                     try simp only [hlt1]
                     refine givesP_mk ?_
                     with_reducible rfl
                  iterate 10
                   refine rg_no rfl (by kernel_rfl) (by kernel_rfl) ?_
                  iterate 3
                   refine rg_pure (v := ?_) rfl (by kernel_rfl) (by kernel_rfl) (fun w hS hN => ?_) ?_
                   rotate_left 1
                   · clear hN
                     go_simp
                     try simp only [hlt1]
                     refine givesP_mk ?_
                     with_reducible rfl
                  refine rg_pure (v := ?_) rfl (by kernel_rfl) (by kernel_rfl) (fun w hS hN => ?_) ?_
                  rotate_left 1
                  · obtain ⟨k0, k1, k2⟩ := HKS.out w (HXG.out.trans hS)
                    clear hN
                    go_simp
                    try simp only [hlt1]
                    refine givesP_mk ?_
                    with_reducible rfl
                  refine rg_pure (v := ?_) rfl (by kernel_rfl) (by kernel_rfl) (fun w hS hN => ?_) ?_
                  rotate_left 1
                  · obtain ⟨k0, k1, k2, k3⟩ := HKG.out w hS
                    clear hN
                    go_simp
                    try simp only [hlt1]
                    refine givesP_mk ?_
                    with_reducible rfl
                  refine rg_mem (fun y => y = .bool rr : Value → Prop) (fun _ _ => True : (Nat → GV) → World → Prop) (fun _ => Ext) rfl rfl rfl rfl (by kernel_rfl) (by kernel_rfl) (fun w hS hN R hR => ?_) ?_
                  · have HR := Lib.hid hR
                    clear hR
                    (try clear hN)
                    go_simp
                    refine givesM_call ((rright_any time ps gs A (some ⟨bb, o, none⟩) c d g st m q w (H2.out.ext (HXG.out.trans hS)) (H3.out.ext (HXG.out.trans hS)) hl1 hl2 rr HRT.out).mono ?_)
                    rintro e w' ⟨rfl, hx⟩
                    exact ⟨_, rfl, HR.out _ _ rfl trivial hx⟩
                  rintro u40 s40 t40 rfl
                  iterate 2
                   refine rg_pure (v := ?_) rfl (by kernel_rfl) (by kernel_rfl) (fun w hS hN => ?_) ?_
                   rotate_left 1
                   · clear hN
                     go_simp
                     try simp only [hlt1]
                     refine givesP_mk ?_
                     with_reducible rfl
                  refine rg_done rfl (Nat.le_of_ble_eq_true (by kernel_rfl)) ?_
                  intro w8 hS hT
                  have HX8 := Lib.hid (HXG.out.trans hS)
                  clear hT hS
                  cases rr with
                  | false =>
                   obtain rfl := HNK.out rfl
                   go_simp
                   go_wp2
                   go_ret
                   exact ⟨rfl, HX3.out.trans HX8.out⟩
                  | true =>
                   have HG := Lib.hid (HGOOD.out (HOK.out rfl))
                   go_simp
                   go_wp2
                   go_roundw
                   case rel => exact ⟨0 + 1, by omega, by go_num, HG, HX8.out⟩
                   case measure => have hkz := HKK.out; simp [intOf]; omega
                 | j + 1 =>
                  have HKK := Lib.hid hkk
                  clear hkk
                  obtain ⟨pv, hpv⟩ : ∃ p, gs[j]? = some p := ⟨gs[j]'(by omega), List.getElem?_eq_getElem (by omega)⟩
                  have HPJ := Lib.hid hpv
                  obtain ⟨pg, hpg⟩ : ∃ x, pv.1 = x := ⟨_, rfl⟩
                  have HPV : Hid (∀ v, Ext w3 v → v.cell? ⟨bb, o + j * 4, none⟩ = some (.int .i64 pg)) := Lib.hid fun v hv => by rw [← hpg]; exact HCELL.out j pv hpv v hv
                  have HWS := Lib.hid (IntWalk.i64_in (j : Int) (by omega) : IntKind.i64.wrap (j : Int) = (j : Int))
                  have HWT : Hid (IntKind.i64.wrap ((j : Int) + 1 - 1) = (j : Int)) := Lib.hid (by rw [show (j : Int) + 1 - 1 = (j : Int) by omega]; exact HWS.out)
                  have HJ : Hid ((0 : Int) ≤ (j : Int) ∧ (j : Int) < (gs.length : Int)) := Lib.hid (by omega)
                  by_cases hle0 : g ≤ pg
                  · have hle : decide (g ≤ pg) = true := by simp [hle0]
                    obtain rfl := HBAD.out fun h => by have := h.2.2.2.2.1 j rfl pv HPJ.out; simp only at this; omega
                    clear hg1 hle0 hpv hpg
                    refine region_rgx ([(2, (fun y => y = .bool true : Value → Prop), (fun _ _ => True : (Nat → GV) → World → Prop)), (7, (fun y => y = .bool true : Value → Prop), (fun _ _ => True : (Nat → GV) → World → Prop)), (13, (fun y => y = .bool true : Value → Prop), (fun _ _ => True : (Nat → GV) → World → Prop))]) (wG) (by kernel_rfl) (by kernel_rfl) ?_ ?_ ?_
                    · exact List.forall_mem_cons.2 ⟨⟨⟨_, rfl⟩, fun _ _ _ _ _ => trivial, fun _ _ _ _ _ => trivial⟩, List.forall_mem_cons.2 ⟨⟨⟨_, rfl⟩, fun _ _ _ _ _ => trivial, fun _ _ _ _ _ => trivial⟩, List.forall_mem_cons.2 ⟨⟨⟨_, rfl⟩, fun _ _ _ _ _ => trivial, fun _ _ _ _ _ => trivial⟩, List.forall_mem_nil _⟩⟩⟩
                    · first | assumption | exact Ext.refl _
                    refine rg_pure (v := ?_) rfl (by kernel_rfl) (by kernel_rfl) (fun w hS hN => ?_) ?_
                    rotate_left 1
                    · clear hN
                      go_simp
                      try simp only [hlt1, hle]
                      refine givesP_mk ?_
                      with_reducible rfl
                    refine rg_pure (v := ?_) rfl (by kernel_rfl) (by kernel_rfl) (fun w hS hN => ?_) ?_
                    rotate_left 1
                    · obtain ⟨k0, k1, k2, k3⟩ := HKG.out w hS
                      clear hN
                      go_simp
                      try simp only [hlt1, hle]
                      refine givesP_mk ?_
                      with_reducible rfl
                    refine rg_mem (fun y => y = .bool true : Value → Prop) (fun _ _ => True : (Nat → GV) → World → Prop) (fun _ => Ext) rfl rfl rfl rfl (by kernel_rfl) (by kernel_rfl) (fun w hS hN R hR => ?_) ?_
                    · have HR := Lib.hid hR
                      clear hR
                      (try clear hN)
                      go_simp
                      refine givesM_call ((rfit_any g true HFg.out w).mono ?_)
                      rintro e w' ⟨rfl, rfl⟩
                      exact ⟨_, rfl, HR.out _ _ rfl trivial (Ext.refl _)⟩
                    rintro u2 s2 t2 rfl
                    iterate 3
                     refine rg_pure (v := ?_) rfl (by kernel_rfl) (by kernel_rfl) (fun w hS hN => ?_) ?_
                     rotate_left 1
                     · clear hN
                       go_simp
                       try simp only [hlt1, hle]
                       refine givesP_mk ?_
                       with_reducible rfl
                    refine rg_pure (v := ?_) rfl (by kernel_rfl) (by kernel_rfl) (fun w hS hN => ?_) ?_
                    rotate_left 1
                    · obtain ⟨k0, k1, k2, k3⟩ := HKG.out w hS
                      clear hN
                      go_simp
                      try simp only [hlt1, hle]
                      refine givesP_mk ?_
                      with_reducible rfl
                    refine rg_mem (fun y => y = .bool true : Value → Prop) (fun _ _ => True : (Nat → GV) → World → Prop) (fun _ => Ext) rfl rfl rfl rfl (by kernel_rfl) (by kernel_rfl) (fun w hS hN R hR => ?_) ?_
                    · have HR := Lib.hid hR
                      clear hR
                      (try clear hN)
                      go_simp
                      refine givesM_call ((rfit_any m true HFm.out w).mono ?_)
                      rintro e w' ⟨rfl, rfl⟩
                      exact ⟨_, rfl, HR.out _ _ rfl trivial (Ext.refl _)⟩
                    rintro u7 s7 t7 rfl
                    iterate 4
                     refine rg_pure (v := ?_) rfl (by kernel_rfl) (by kernel_rfl) (fun w hS hN => ?_) ?_
                     rotate_left 1
                     · clear hN
                       go_simp
                       try simp only [hlt1, hle]
                       refine givesP_mk ?_
                       with_reducible rfl
                    refine rg_pure (v := ?_) rfl (by kernel_rfl) (by kernel_rfl) (fun w hS hN => ?_) ?_
                    rotate_left 1
                    · obtain ⟨k0, k1, k2, k3⟩ := HKG.out w hS
                      clear hN
                      go_simp
                      try simp only [hlt1, hle]
                      refine givesP_mk ?_
                      with_reducible rfl
                    refine rg_mem (fun y => y = .bool true : Value → Prop) (fun _ _ => True : (Nat → GV) → World → Prop) (fun _ => Ext) rfl rfl rfl rfl (by kernel_rfl) (by kernel_rfl) (fun w hS hN R hR => ?_) ?_
                    · have HR := Lib.hid hR
                      clear hR
                      (try clear hN)
                      go_simp
                      refine givesM_call ((rfit_any q true HFq.out w).mono ?_)
                      rintro e w' ⟨rfl, rfl⟩
                      exact ⟨_, rfl, HR.out _ _ rfl trivial (Ext.refl _)⟩
                    rintro u13 s13 t13 rfl
                    iterate 4
                     refine rg_pure (v := ?_) rfl (by kernel_rfl) (by kernel_rfl) (fun w hS hN => ?_) ?_
                     rotate_left 1
                     · clear hN
                       go_simp
                       try simp only [hlt1, hle]
                       refine givesP_mk ?_
                       with_reducible rfl
                    refine rg_pure (v := ?_) rfl (by kernel_rfl) (by kernel_rfl) (fun w hS hN => ?_) ?_
                    rotate_left 1
                    · obtain ⟨k0, k1, k2, k3⟩ := HKG.out w hS
                      clear hN
                      go_simp
                      try simp only [hlt1, hle]
                      refine givesP_mk ?_
                      with_reducible rfl
                    iterate 7
                     refine rg_pure (v := ?_) rfl (by kernel_rfl) (by kernel_rfl) (fun w hS hN => ?_) ?_
                     rotate_left 1
                     · clear hN
                       go_simp
                       try simp only [hlt1, hle]
                       refine givesP_mk ?_
                       with_reducible rfl
                    refine rg_pure (v := ?_) rfl (by kernel_rfl) (by kernel_rfl) (fun w hS hN => ?_) ?_
                    rotate_left 1
                    · obtain ⟨k0, k1, k2, k3⟩ := HKG.out w hS
                      clear hN
                      go_simp
                      try simp only [hlt1, hle]
                      refine givesP_mk ?_
                      with_reducible rfl
                    refine rg_pure (v := ?_) rfl (by kernel_rfl) (by kernel_rfl) (fun w hS hN => ?_) ?_
                    rotate_left 1
                    · clear hN
                      go_simp
                      try simp only [hlt1, hle]
                      refine givesP_mk ?_
                      with_reducible rfl
                    refine rg_pure (v := ?_) rfl (by kernel_rfl) (by kernel_rfl) (fun w hS hN => ?_) ?_
                    rotate_left 1
                    · obtain ⟨k0, k1, k2⟩ := HKS.out w (HXG.out.trans hS)
                      clear hN
                      go_simp
                      try simp only [hlt1, hle]
                      refine givesP_mk ?_
                      with_reducible rfl
                    refine rg_pure (v := ?_) rfl (by kernel_rfl) (by kernel_rfl) (fun w hS hN => ?_) ?_
                    rotate_left 1
                    · clear hN
                      go_simp
                      try simp only [hlt1, hle]
                      refine givesP_mk ?_
                      with_reducible rfl
                    refine rg_pure (v := ?_) rfl (by kernel_rfl) (by kernel_rfl) (fun w hS hN => ?_) ?_
                    rotate_left 1
                    · have e1 := HWS.out
                      have e2 := HWT.out
                      clear hN
                      go_simp
                      try simp only [hlt1, hle]
                      refine givesP_mk ?_
                      with_reducible rfl
                    refine rg_pure (v := ?_) rfl (by kernel_rfl) (by kernel_rfl) (fun w hS hN => ?_) ?_
                    rotate_left 1
                    · obtain ⟨e1, e2⟩ := HJ.out
                      clear hN
                      go_simp
                      try simp only [hlt1, hle]
                      refine givesP_mk ?_
                      with_reducible rfl
                    refine rg_pure (v := ?_) rfl (by kernel_rfl) (by kernel_rfl) (fun w hS hN => ?_) ?_
                    rotate_left 1
                    · clear hN
                      go_simp
                      try simp only [hlt1, hle]
                      refine givesP_mk ?_
                      with_reducible rfl
                    refine rg_pure (v := ?_) rfl (by kernel_rfl) (by kernel_rfl) (fun w hS hN => ?_) ?_
                    rotate_left 1
                    · have e1 := HPV.out w (HXG.out.trans hS)
                      clear hN
                      go_simp
                      try simp only [hlt1, hle]
                      refine givesP_mk ?_
                      with_reducible rfl
                    iterate 4
                     refine rg_pure (v := ?_) rfl (by kernel_rfl) (by kernel_rfl) (fun w hS hN => ?_) ?_
                     rotate_left 1
                     · clear hN
                       go_simp
                       try simp only [hlt1, hle]
                       refine givesP_mk ?_
                       with_reducible rfl
                    iterate 4
                     refine rg_no rfl (by kernel_rfl) (by kernel_rfl) ?_
                    refine rg_pure (v := ?_) rfl (by kernel_rfl) (by kernel_rfl) (fun w hS hN => ?_) ?_
                    rotate_left 1
                    · clear hN
                      go_simp
                      try simp only [hlt1, hle]
                      refine givesP_mk ?_
                      with_reducible rfl
                    refine rg_done rfl (Nat.le_of_ble_eq_true (by kernel_rfl)) ?_
                    intro w8 hS hT
                    have HX8 := Lib.hid (HXG.out.trans hS)
                    clear hT hS
                    go_simp
                    go_wp2
                    go_ret
                    exact ⟨rfl, HX3.out.trans HX8.out⟩
                  · have hle : decide (g ≤ pg) = false := by simp; omega
                    have HOK : Hid (rr = true → rGOk ps gs (j + 1) (g, st, m, q)) := Lib.hid fun h => ⟨HFg.out, HFm.out, HFq.out, by simp only; omega, fun i hi p hp => by
                     obtain rfl : i = j := by omega
                     rw [HPJ.out] at hp
                     injection hp with hp
                     subst hp
                     simp only; omega, by simp only; rw [HRT.out, h]⟩
                    have HNK : Hid (rr = false → r = false) := Lib.hid fun h => HBAD.out fun hh => by have := hh.2.2.2.2.2; simp only at this; rw [HRT.out, h] at this; cases this
                    clear hg1 hle0 hpv hpg
                    refine region_rgx ([(2, (fun y => y = .bool true : Value → Prop), (fun _ _ => True : (Nat → GV) → World → Prop)), (7, (fun y => y = .bool true : Value → Prop), (fun _ _ => True : (Nat → GV) → World → Prop)), (13, (fun y => y = .bool true : Value → Prop), (fun _ _ => True : (Nat → GV) → World → Prop)), (40, (fun y => y = .bool rr : Value → Prop), (fun _ _ => True : (Nat → GV) → World → Prop))]) (wG) (by kernel_rfl) (by kernel_rfl) ?_ ?_ ?_
                    · exact List.forall_mem_cons.2 ⟨⟨⟨_, rfl⟩, fun _ _ _ _ _ => trivial, fun _ _ _ _ _ => trivial⟩, List.forall_mem_cons.2 ⟨⟨⟨_, rfl⟩, fun _ _ _ _ _ => trivial, fun _ _ _ _ _ => trivial⟩, List.forall_mem_cons.2 ⟨⟨⟨_, rfl⟩, fun _ _ _ _ _ => trivial, fun _ _ _ _ _ => trivial⟩, List.forall_mem_cons.2 ⟨⟨⟨_, rfl⟩, fun _ _ _ _ _ => trivial, fun _ _ _ _ _ => trivial⟩, List.forall_mem_nil _⟩⟩⟩⟩
                    · first | assumption | exact Ext.refl _
                    refine rg_pure (v := ?_) rfl (by kernel_rfl) (by kernel_rfl) (fun w hS hN => ?_) ?_
                    rotate_left 1
                    · clear hN
                      go_simp
                      try simp only [hlt1, hle]
                      refine givesP_mk ?_
                      with_reducible rfl
                    refine rg_pure (v := ?_) rfl (by kernel_rfl) (by kernel_rfl) (fun w hS hN => ?_) ?_
                    rotate_left 1
                    · obtain ⟨k0, k1, k2, k3⟩ := HKG.out w hS
                      clear hN
                      go_simp
                      try simp only [hlt1, hle]
                      refine givesP_mk ?_
                      with_reducible rfl
                    refine rg_mem (fun y => y = .bool true : Value → Prop) (fun _ _ => True : (Nat → GV) → World → Prop) (fun _ => Ext) rfl rfl rfl rfl (by kernel_rfl) (by kernel_rfl) (fun w hS hN R hR => ?_) ?_
                    · have HR := Lib.hid hR
                      clear hR
                      (try clear hN)
                      go_simp
                      refine givesM_call ((rfit_any g true HFg.out w).mono ?_)
                      rintro e w' ⟨rfl, rfl⟩
                      exact ⟨_, rfl, HR.out _ _ rfl trivial (Ext.refl _)⟩
                    rintro u2 s2 t2 rfl
                    iterate 3
                     refine rg_pure (v := ?_) rfl (by kernel_rfl) (by kernel_rfl) (fun w hS hN => ?_) ?_
                     rotate_left 1
                     · clear hN
                       go_simp
                       try simp only [hlt1, hle]
                       refine givesP_mk ?_
                       with_reducible rfl
                    refine rg_pure (v := ?_) rfl (by kernel_rfl) (by kernel_rfl) (fun w hS hN => ?_) ?_
                    rotate_left 1
                    · obtain ⟨k0, k1, k2, k3⟩ := HKG.out w hS
                      clear hN
                      go_simp
                      try simp only [hlt1, hle]
                      refine givesP_mk ?_
                      with_reducible rfl
                    refine rg_mem (fun y => y = .bool true : Value → Prop) (fun _ _ => True : (Nat → GV) → World → Prop) (fun _ => Ext) rfl rfl rfl rfl (by kernel_rfl) (by kernel_rfl) (fun w hS hN R hR => ?_) ?_
                    · have HR := Lib.hid hR
                      clear hR
                      (try clear hN)
                      go_simp
                      refine givesM_call ((rfit_any m true HFm.out w).mono ?_)
                      rintro e w' ⟨rfl, rfl⟩
                      exact ⟨_, rfl, HR.out _ _ rfl trivial (Ext.refl _)⟩
                    rintro u7 s7 t7 rfl
                    iterate 4
                     refine rg_pure (v := ?_) rfl (by kernel_rfl) (by kernel_rfl) (fun w hS hN => ?_) ?_
                     rotate_left 1
                     · clear hN
                       go_simp
                       try simp only [hlt1, hle]
                       refine givesP_mk ?_
                       with_reducible rfl
                    refine rg_pure (v := ?_) rfl (by kernel_rfl) (by kernel_rfl) (fun w hS hN => ?_) ?_
                    rotate_left 1
                    · obtain ⟨k0, k1, k2, k3⟩ := HKG.out w hS
                      clear hN
                      go_simp
                      try simp only [hlt1, hle]
                      refine givesP_mk ?_
                      with_reducible rfl
                    refine rg_mem (fun y => y = .bool true : Value → Prop) (fun _ _ => True : (Nat → GV) → World → Prop) (fun _ => Ext) rfl rfl rfl rfl (by kernel_rfl) (by kernel_rfl) (fun w hS hN R hR => ?_) ?_
                    · have HR := Lib.hid hR
                      clear hR
                      (try clear hN)
                      go_simp
                      refine givesM_call ((rfit_any q true HFq.out w).mono ?_)
                      rintro e w' ⟨rfl, rfl⟩
                      exact ⟨_, rfl, HR.out _ _ rfl trivial (Ext.refl _)⟩
                    rintro u13 s13 t13 rfl
                    iterate 4
                     refine rg_pure (v := ?_) rfl (by kernel_rfl) (by kernel_rfl) (fun w hS hN => ?_) ?_
                     rotate_left 1
                     · clear hN
                       go_simp
                       try simp only [hlt1, hle]
                       refine givesP_mk ?_
                       with_reducible rfl
                    refine rg_pure (v := ?_) rfl (by kernel_rfl) (by kernel_rfl) (fun w hS hN => ?_) ?_
                    rotate_left 1
                    · obtain ⟨k0, k1, k2, k3⟩ := HKG.out w hS
                      clear hN
                      go_simp
                      try simp only [hlt1, hle]
                      refine givesP_mk ?_
                      with_reducible rfl
                    iterate 7
                     refine rg_pure (v := ?_) rfl (by kernel_rfl) (by kernel_rfl) (fun w hS hN => ?_) ?_
                     rotate_left 1
                     · clear hN
                       go_simp
                       try simp only [hlt1, hle]
                       refine givesP_mk ?_
                       with_reducible rfl
                    refine rg_pure (v := ?_) rfl (by kernel_rfl) (by kernel_rfl) (fun w hS hN => ?_) ?_
                    rotate_left 1
                    · obtain ⟨k0, k1, k2, k3⟩ := HKG.out w hS
                      clear hN
                      go_simp
                      try simp only [hlt1, hle]
                      refine givesP_mk ?_
                      with_reducible rfl
                    refine rg_pure (v := ?_) rfl (by kernel_rfl) (by kernel_rfl) (fun w hS hN => ?_) ?_
                    rotate_left 1
                    · clear hN
                      go_simp
                      try simp only [hlt1, hle]
                      refine givesP_mk ?_
                      with_reducible rfl
                    refine rg_pure (v := ?_) rfl (by kernel_rfl) (by kernel_rfl) (fun w hS hN => ?_) ?_
                    rotate_left 1
                    · obtain ⟨k0, k1, k2⟩ := HKS.out w (HXG.out.trans hS)
                      clear hN
                      go_simp
                      try simp only [hlt1, hle]
                      refine givesP_mk ?_
                      with_reducible rfl
                    refine rg_pure (v := ?_) rfl (by kernel_rfl) (by kernel_rfl) (fun w hS hN => ?_) ?_
                    rotate_left 1
                    · clear hN
                      go_simp
                      try simp only [hlt1, hle]
                      refine givesP_mk ?_
                      with_reducible rfl
                    refine rg_pure (v := ?_) rfl (by kernel_rfl) (by kernel_rfl) (fun w hS hN => ?_) ?_
                    rotate_left 1
                    · have e1 := HWS.out
                      have e2 := HWT.out
                      clear hN
                      go_simp
                      try simp only [hlt1, hle]
                      refine givesP_mk ?_
                      with_reducible rfl
                    refine rg_pure (v := ?_) rfl (by kernel_rfl) (by kernel_rfl) (fun w hS hN => ?_) ?_
                    rotate_left 1
                    · obtain ⟨e1, e2⟩ := HJ.out
                      clear hN
                      go_simp
                      try simp only [hlt1, hle]
                      refine givesP_mk ?_
                      with_reducible rfl
                    refine rg_pure (v := ?_) rfl (by kernel_rfl) (by kernel_rfl) (fun w hS hN => ?_) ?_
                    rotate_left 1
                    · clear hN
                      go_simp
                      try simp only [hlt1, hle]
                      refine givesP_mk ?_
                      with_reducible rfl
                    refine rg_pure (v := ?_) rfl (by kernel_rfl) (by kernel_rfl) (fun w hS hN => ?_) ?_
                    rotate_left 1
                    · have e1 := HPV.out w (HXG.out.trans hS)
                      clear hN
                      go_simp
                      try simp only [hlt1, hle]
                      refine givesP_mk ?_
                      with_reducible rfl
                    iterate 4
                     refine rg_pure (v := ?_) rfl (by kernel_rfl) (by kernel_rfl) (fun w hS hN => ?_) ?_
                     rotate_left 1
                     · clear hN
                       go_simp
                       try simp only [hlt1, hle]
                       refine givesP_mk ?_
                       with_reducible rfl
                    refine rg_pure (v := ?_) rfl (by kernel_rfl) (by kernel_rfl) (fun w hS hN => ?_) ?_
                    rotate_left 1
                    · obtain ⟨k0, k1, k2⟩ := HKS.out w (HXG.out.trans hS)
                      clear hN
                      go_simp
                      try simp only [hlt1, hle]
                      refine givesP_mk ?_
                      with_reducible rfl
                    refine rg_pure (v := ?_) rfl (by kernel_rfl) (by kernel_rfl) (fun w hS hN => ?_) ?_
                    rotate_left 1
                    · obtain ⟨k0, k1, k2, k3⟩ := HKG.out w hS
                      clear hN
                      go_simp
                      try simp only [hlt1, hle]
                      refine givesP_mk ?_
                      with_reducible rfl
                    refine rg_mem (fun y => y = .bool rr : Value → Prop) (fun _ _ => True : (Nat → GV) → World → Prop) (fun _ => Ext) rfl rfl rfl rfl (by kernel_rfl) (by kernel_rfl) (fun w hS hN R hR => ?_) ?_
                    · have HR := Lib.hid hR
                      clear hR
                      (try clear hN)
                      go_simp
                      refine givesM_call ((rright_any time ps gs A (some ⟨bb, o, none⟩) c d g st m q w (H2.out.ext (HXG.out.trans hS)) (H3.out.ext (HXG.out.trans hS)) hl1 hl2 rr HRT.out).mono ?_)
                      rintro e w' ⟨rfl, hx⟩
                      exact ⟨_, rfl, HR.out _ _ rfl trivial hx⟩
                    rintro u40 s40 t40 rfl
                    iterate 2
                     refine rg_pure (v := ?_) rfl (by kernel_rfl) (by kernel_rfl) (fun w hS hN => ?_) ?_
                     rotate_left 1
                     · clear hN
                       go_simp
                       try simp only [hlt1, hle]
                       refine givesP_mk ?_
                       with_reducible rfl
                    refine rg_done rfl (Nat.le_of_ble_eq_true (by kernel_rfl)) ?_
                    intro w8 hS hT
                    have HX8 := Lib.hid (HXG.out.trans hS)
                    clear hT hS
                    cases rr with
                    | false =>
                     obtain rfl := HNK.out rfl
                     go_simp
                     go_wp2
                     go_ret
                     exact ⟨rfl, HX3.out.trans HX8.out⟩
                    | true =>
                     have HG := Lib.hid (HGOOD.out (HOK.out rfl))
                     go_simp
                     go_wp2
                     go_roundw
                     case rel => exact ⟨(j + 1) + 1, by omega, by go_num, HG, HX8.out⟩
                     case measure => have hkz := HKK.out; simp [intOf]; omega
          · obtain rfl : k = gs.length := by omega
            obtain rfl := HYES.out ⟨HTF.out, h64, h1000, HPALL.out, fun i g hg => HGO.out i g (List.getElem?_eq_some_iff.1 hg).1 hg⟩
            go_wp2
            go_ret
            exact ⟨rfl, HX3.out.trans HX.out⟩
    · have i64 : (ps.length : Int) ≤ 64 := by omega
      have i1000 : 1000 < (gs.length : Int) := by omega
      have n64 : ¬ 64 < (ps.length : Int) := by omega
      obtain rfl := HNO.out fun h => h1000 h.2.2.1
      go_wp2
      go_ret
      exact ⟨rfl, HX3.out.trans HXR.out⟩
  · have i64 : 64 < (ps.length : Int) := by omega
    obtain rfl := HNO.out fun h => h64 h.2.1
    go_wp2
    go_ret
    exact ⟨rfl, HX3.out.trans HXR.out⟩
theorem rsnmay_k (v : Value) (s : Sn) (r : Bool) (w : World) (hr : s.may = r) (hs : SnAt w v s) (hp : s.ps.length ≤ 10000) (hg : s.gs.length ≤ 10000) :
    Calls Tryd.prog 33 #[v] w fun e w' => e = .returned (.bool r) ∧ Ext w w' := by
 obtain ⟨A, c, B, d, rfl, h2, h3⟩ := hs
 exact rsnmay_in s.time s.ps s.gs A B c d w h2 h3 hp hg r hr
end Go.Proofs.YtohncgikdlbogaaDoor
