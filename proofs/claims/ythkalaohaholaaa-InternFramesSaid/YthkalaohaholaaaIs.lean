/-
  Contracts of the document's Small and Few.
-/
import Derived.Test.YthkalaohaholaaaIr
set_option linter.unusedVariables false
set_option linter.unusedSimpArgs false
namespace Go.Proofs.Ythkalaohaholaaa
open Go.RowKit Go.Maps

def Tb.small (t : Tb) : Bool := t.ss.all (fun s => decide (s.size ≤ 1100)) && t.ks.all (fun l => decide (l.length ≤ 30)) && decide (t.ss.length ≤ 60 ∧ t.ks.length ≤ 60)
def Tb.few (l : List (ByteArray × Int)) : Bool := l.all (fun f => decide (f.1.size ≤ 1100)) && decide (l.length ≤ 30)
theorem Tb.small_iff {t : Tb} : t.small = true ↔ (∀ s ∈ t.ss, s.size ≤ 1100) ∧ (∀ l ∈ t.ks, l.length ≤ 30) ∧ t.ss.length ≤ 60 ∧ t.ks.length ≤ 60 := by
  unfold Tb.small
  simp only [Bool.and_eq_true, List.all_eq_true, decide_eq_true_eq]
  exact ⟨fun ⟨⟨a, b⟩, c, d⟩ => ⟨a, b, c, d⟩, fun ⟨a, b, c, d⟩ => ⟨⟨a, b⟩, c, d⟩⟩
theorem Tb.few_iff {l : List (ByteArray × Int)} : Tb.few l = true ↔ (∀ f ∈ l, f.1.size ≤ 1100) ∧ l.length ≤ 30 := by
  unfold Tb.few
  simp only [Bool.and_eq_true, List.all_eq_true, decide_eq_true_eq]
set_option maxRecDepth 100000 in
set_option maxHeartbeats 4000000 in
theorem rfew_any (v : Value) (l : List (ByteArray × Int)) (w : World) (h : RowsAt 2 fcL w v l) (hn : l.length ≤ maxLen) (hz : ∀ f ∈ l, f.1.size ≤ maxLen) :
    Calls Try.prog 9 #[v] w fun e w' => e = .returned (.bool (Tb.few l)) ∧ w = w' := by
  obtain ⟨A, c, rfl, hc⟩ := h.form
  have HH := Lib.hid h
  have HZ := Lib.hid hz
  have hml : (l.length : Int) ≤ 9223372036854775807 := by unfold maxLen at hn; omega
  clear h hc hz hn
  go_enter Try.func9, Try.ntmps9
  go_wp2
  go_loop [3] (fun iv => ∃ k : Nat, k ≤ l.length ∧ iv = .int .i64 k ∧ Hid ((l.take k).all (fun f => decide (f.1.size ≤ 1100)) = true)) (fun iv => l.length - (intOf iv).toNat)
  case atStart => exact ⟨0, by omega, rfl, Lib.hid rfl⟩
  case round =>
    obtain ⟨k, hk, rfl, HN⟩ := hrel
    by_cases hlt : k < l.length
    · obtain ⟨f, hf⟩ : ∃ f, l[k]? = some f := ⟨_, List.getElem?_eq_getElem hlt⟩
      obtain ⟨b, o, rfl, hb, c0, c1⟩ := fcs_get HH.out hf
      have hsz := HZ.out f (List.mem_of_getElem? hf)
      have HX := Lib.hid (all_nxt (p := fun f : ByteArray × Int => decide (f.1.size ≤ 1100)) hlt)
      rw [(List.getElem?_eq_some_iff.1 hf).2, HN.out, Bool.true_and] at HX
      have HY : Hid ((l.take (k + 1)).all (fun f => decide (f.1.size ≤ 1100)) = false → Tb.few l = false) := Lib.hid fun h => by unfold Tb.few; rw [all_stop h]; rfl
      obtain ⟨s, m⟩ := f
      simp only at c0 hsz HX
      have hsi : (s.size : Int) ≤ 9223372036854775807 := by unfold maxLen at hsz; omega
      clear hf c1
      by_cases hle : s.size ≤ 1100
      · have HE : Hid ((l.take (k + 1)).all (fun f => decide (f.1.size ≤ 1100)) = true) := Lib.hid (by rw [HX.out, decide_eq_true hle])
        have hgi : (s.size : Int) ≤ 1100 := by omega
        go_wp2
        go_round
        case rel => exact ⟨k + 1, by omega, by go_num, HE⟩
        case measure => simp [intOf]; omega
      · have HE := Lib.hid (HY.out (by rw [HX.out, decide_eq_false hle]))
        have hgi : (1100 : Int) < (s.size : Int) := by omega
        go_wp2
        go_ret
        exact ⟨by rw [HE.out] <;> rfl, rfl⟩
    · obtain rfl : k = l.length := by omega
      have HE : Hid (Tb.few l = decide ((l.length : Int) ≤ 30)) := Lib.hid (by
        have h1 := HN.out
        rw [List.take_length] at h1
        unfold Tb.few
        rw [h1, Bool.true_and]
        exact decide_eq_decide.2 ⟨fun h => by omega, fun h => by omega⟩)
      go_wp2
      go_ret
      exact ⟨by rw [HE.out] <;> rfl, rfl⟩
set_option maxRecDepth 100000 in
set_option maxHeartbeats 4000000 in
theorem rsmall_any (v : Value) (t : Tb) (w : World) (h : TabAt w v t) (hl : t.ss.length ≤ maxLen) (hm : t.ks.length ≤ maxLen) (hz : ∀ s ∈ t.ss, s.size ≤ maxLen) (hy : ∀ l ∈ t.ks, l.length ≤ maxLen) :
    Calls Try.prog 8 #[v] w fun e w' => e = .returned (.bool t.small) ∧ Ext w w' := by
  obtain ⟨A, c, B, d, rfl, h1, h2⟩ := h.two
  obtain ⟨w1, hw1⟩ : ∃ w1, w.alloc (.cells #[.slice A t.ss.length c, .slice B t.ks.length d] 25) = w1 := ⟨_, rfl⟩
  obtain ⟨p, hp⟩ : ∃ p, w.heap.size = p := ⟨_, rfl⟩
  have HX1 : Hid (Ext w w1) := Lib.hid (by rw [← hw1]; exact (Ext.refl w).alloc _)
  have hb1 : w1.heap[p]? = some (.cells #[.slice A t.ss.length c, .slice B t.ks.length d] 25 (0, 0)) := by rw [← hw1, ← hp]; exact blk_new w _
  have b0 : w1.cell? ⟨w.heap.size, 0, none⟩ = some (.slice A t.ss.length c) := by rw [hp]; exact blk_cell hb1 0 _ rfl
  have b1 : w1.cell? ⟨w.heap.size, 1, none⟩ = some (.slice B t.ks.length d) := by rw [hp]; exact blk_cell hb1 1 _ rfl
  have H1 := Lib.hid (h1.ext HX1.out)
  have H2 := Lib.hid (h2.ext HX1.out)
  have HZ := Lib.hid hz
  have HY := Lib.hid hy
  have HW1 := Lib.hid hw1
  have hl1 : (t.ss.length : Int) ≤ 9223372036854775807 := by unfold maxLen at hl; omega
  have hl2 : (t.ks.length : Int) ≤ 9223372036854775807 := by unfold maxLen at hm; omega
  clear h h1 h2 hz hy hw1 hp hb1 hl hm
  go_enter Try.func8, Try.ntmps8
  go_wp2
  rw [HW1.out]
  go_loop [3] (fun iv => ∃ k : Nat, k ≤ t.ss.length ∧ iv = .int .i64 k ∧ Hid ((t.ss.take k).all (fun s => decide (s.size ≤ 1100)) = true)) (fun iv => t.ss.length - (intOf iv).toNat)
  case atStart => exact ⟨0, by omega, rfl, Lib.hid rfl⟩
  case round =>
    obtain ⟨k, hk, rfl, HN⟩ := hrel
    by_cases hlt : k < t.ss.length
    · obtain ⟨s, hs⟩ : ∃ s, t.ss[k]? = some s := ⟨_, List.getElem?_eq_getElem hlt⟩
      obtain ⟨b, o, rfl, hb, c0⟩ := strs_get H1.out hs
      have hsz := HZ.out s (List.mem_of_getElem? hs)
      have HX := Lib.hid (all_nxt (p := fun s : ByteArray => decide (s.size ≤ 1100)) hlt)
      rw [(List.getElem?_eq_some_iff.1 hs).2, HN.out, Bool.true_and] at HX
      have HQ : Hid ((t.ss.take (k + 1)).all (fun s => decide (s.size ≤ 1100)) = false → t.small = false) := Lib.hid fun h => by unfold Tb.small; rw [all_stop h]; rfl
      have hsi : (s.size : Int) ≤ 9223372036854775807 := by unfold maxLen at hsz; omega
      clear hs
      by_cases hle : s.size ≤ 1100
      · have HE : Hid ((t.ss.take (k + 1)).all (fun s => decide (s.size ≤ 1100)) = true) := Lib.hid (by rw [HX.out, decide_eq_true hle])
        have hgi : (s.size : Int) ≤ 1100 := by omega
        go_wp2
        go_round
        case rel => exact ⟨k + 1, by omega, by go_num, HE⟩
        case measure => simp [intOf]; omega
      · have HE := Lib.hid (HQ.out (by rw [HX.out, decide_eq_false hle]))
        have hgi : (1100 : Int) < (s.size : Int) := by omega
        go_wp2
        go_ret
        exact ⟨by rw [HE.out] <;> rfl, HX1.out⟩
    · obtain rfl : k = t.ss.length := by omega
      rw [List.take_length] at HN
      go_wp2
      go_loop [4] (fun iv => ∃ k : Nat, k ≤ t.ks.length ∧ iv = .int .i64 k ∧ Hid ((t.ks.take k).all (fun l => decide (l.length ≤ 30)) = true)) (fun iv => t.ks.length - (intOf iv).toNat)
      case atStart => exact ⟨0, by omega, rfl, Lib.hid rfl⟩
      case round =>
        obtain ⟨k, hk, rfl, HM⟩ := hrel
        by_cases hlt : k < t.ks.length
        · obtain ⟨l, hs⟩ : ∃ l, t.ks[k]? = some l := ⟨_, List.getElem?_eq_getElem hlt⟩
          obtain ⟨b, o, z, rfl, hb, c0, hr⟩ := H2.out.one hs
          have hsz := HY.out l (List.mem_of_getElem? hs)
          have HX := Lib.hid (all_nxt (p := fun l : List (Int × Int) => decide (l.length ≤ 30)) hlt)
          rw [(List.getElem?_eq_some_iff.1 hs).2, HM.out, Bool.true_and] at HX
          have HQ : Hid ((t.ks.take (k + 1)).all (fun l => decide (l.length ≤ 30)) = false → t.small = false) := Lib.hid fun h => by unfold Tb.small; rw [all_stop h, Bool.and_false]; rfl
          have hsi : (l.length : Int) ≤ 9223372036854775807 := by unfold maxLen at hsz; omega
          obtain ⟨C, q, rfl, hq⟩ := hr.form
          clear hs hr
          by_cases hle : l.length ≤ 30
          · have HE : Hid ((t.ks.take (k + 1)).all (fun l => decide (l.length ≤ 30)) = true) := Lib.hid (by rw [HX.out, decide_eq_true hle])
            have hgi : (l.length : Int) ≤ 30 := by omega
            go_wp2
            go_round
            case rel => exact ⟨k + 1, by omega, by go_num, HE⟩
            case measure => simp [intOf]; omega
          · have HE := Lib.hid (HQ.out (by rw [HX.out, decide_eq_false hle]))
            have hgi : (30 : Int) < (l.length : Int) := by omega
            go_wp2
            go_ret
            exact ⟨by rw [HE.out] <;> rfl, HX1.out⟩
        · obtain rfl : k = t.ks.length := by omega
          rw [List.take_length] at HM
          by_cases h1 : t.ss.length ≤ 60
          · have HE : Hid (t.small = decide ((t.ks.length : Int) ≤ 60)) := Lib.hid (by
              unfold Tb.small
              rw [HN.out, HM.out, Bool.true_and, Bool.true_and]
              exact decide_eq_decide.2 ⟨fun h => by omega, fun h => by omega⟩)
            have hgi : (t.ss.length : Int) ≤ 60 := by omega
            go_wp2
            go_ret
            exact ⟨by rw [HE.out] <;> rfl, HX1.out⟩
          · have HE : Hid (t.small = false) := Lib.hid (by
              unfold Tb.small
              rw [HN.out, HM.out, Bool.true_and, Bool.true_and]
              exact decide_eq_false (by omega))
            have hgi : (60 : Int) < (t.ss.length : Int) := by omega
            go_wp2
            go_ret
            exact ⟨by rw [HE.out] <;> rfl, HX1.out⟩

end Go.Proofs.Ythkalaohaholaaa
