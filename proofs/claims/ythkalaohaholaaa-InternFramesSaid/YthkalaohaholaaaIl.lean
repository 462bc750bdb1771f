/-
  Contracts of intern's Name and Frames.
-/
import Derived.Test.YthkalaohaholaaaIk
set_option linter.unusedVariables false
set_option linter.unusedSimpArgs false
namespace Go.Proofs.Ythkalaohaholaaa
open Go.RowKit Go.Maps

def NameP (r : ByteArray × Bool) (w : World) (e : Ending) (w' : World) : Prop := e = .returned (.tuple #[.string r.1, .bool r.2]) ∧ Ext w w'
theorem strs_get {w : World} {A : Option Addr} {n c : Nat} {l : List ByteArray} (h : RowsAt 1 strL w (.slice A n c) l) {k : Nat} {s : ByteArray} (hk : l[k]? = some s) : ∃ b o, A = some ⟨b, o, none⟩ ∧ b < w.heap.size ∧ w.cell? ⟨b, o + k, none⟩ = some (.string s) := by
  have hl := (List.getElem?_eq_some_iff.1 hk).1
  obtain ⟨b, o, hA, hb, hc⟩ := h.cell (by omega)
  have := hc k s hk 0 _ rfl
  rw [Nat.mul_one, Nat.add_zero] at this
  exact ⟨b, o, hA, hb, this⟩
set_option maxRecDepth 100000 in
set_option maxHeartbeats 4000000 in
theorem iname_any (v : Value) (t : Tb) (id : Int) (w : World) (h : TabAt w v t) (hl : t.ss.length ≤ 100000) (hm' : t.ks.length ≤ 100000) :
    Calls Try.prog 15 #[v, .int .i64 id] w (NameP (t.name id) w) := by
  obtain ⟨A, c, B, d, rfl, h1, h2⟩ := h.two
  obtain ⟨w1, hw1⟩ : ∃ w1, w.alloc (.cells #[.slice A t.ss.length c, .slice B t.ks.length d] 25) = w1 := ⟨_, rfl⟩
  have HX1 : Hid (Ext w w1) := Lib.hid (by rw [← hw1]; exact (Ext.refl w).alloc _)
  have HB1 : Hid (w1.heap[w.heap.size]? = some (.cells #[.slice A t.ss.length c, .slice B t.ks.length d] 25)) := Lib.hid (by rw [← hw1]; exact blk_new w _)
  have HM := Lib.hid (imay_any _ t w1 (h.ext HX1.out) hl hm')
  have HW1 := Lib.hid hw1
  have HS := Lib.hid h1
  have b0 := blk_cell HB1.out 0 _ rfl
  have b1 := blk_cell HB1.out 1 _ rfl
  clear h h1 h2 hw1
  by_cases hin : 0 ≤ id ∧ id ≤ t.ss.length
  · obtain ⟨i0, i1⟩ := hin
    cases hm : t.may with
    | false =>
      have HT : Hid (t.name id = (⟨#[]⟩, false)) := Lib.hid (by unfold Tb.name; rw [if_neg (by rw [hm]; simp)])
      rw [hm] at HM
      go_enter Try.func15, Try.ntmps15
      go_wp2_with (rw [HW1.out])
      refine HM.out.mono ?_
      rintro e w2 ⟨rfl, hx⟩
      go_wp2
      go_ret2
      rw [HT.out]
      exact ⟨rfl, HX1.out.trans hx⟩
    | true =>
      rw [hm] at HM
      by_cases h0 : id = 0
      · subst h0
        have HT : Hid (t.name 0 = (⟨#[]⟩, true)) := Lib.hid (by unfold Tb.name; rw [if_pos ⟨i0, i1, hm⟩, if_pos rfl])
        go_enter Try.func15, Try.ntmps15
        go_wp2_with (rw [HW1.out])
        refine HM.out.mono ?_
        rintro e w2 ⟨rfl, hx⟩
        go_wp2
        go_ret2
        rw [HT.out]
        exact ⟨rfl, HX1.out.trans hx⟩
      · obtain ⟨k, rfl⟩ : ∃ k : Nat, id = (k : Int) + 1 := ⟨(id - 1).toNat, by omega⟩
        have hk : k < t.ss.length := by omega
        obtain ⟨s, hs⟩ : ∃ s, t.ss[k]? = some s := ⟨_, List.getElem?_eq_getElem hk⟩
        have HT : Hid (t.name ((k : Int) + 1) = (s, true)) := Lib.hid (by
          unfold Tb.name
          rw [if_pos ⟨i0, i1, hm⟩, if_neg h0, show ((k : Int) + 1 - 1).toNat = k by omega, List.getD, hs]
          rfl)
        have hz0 : (((k : Int) + 1) == 0) = false := by simpa using h0
        have HSS := Lib.hid hs
        clear hs
        go_enter Try.func15, Try.ntmps15
        go_wp2_with (rw [HW1.out])
        refine HM.out.mono ?_
        rintro e w2 ⟨rfl, hx⟩
        obtain ⟨b, o, rfl, hb, hcell⟩ := strs_get (HS.out.ext (HX1.out.trans hx)) HSS.out
        have hb2 := hx.blk HB1.out
        have HB2 := Lib.hid hb2
        have HX2 := Lib.hid (HX1.out.trans hx)
        clear hx b0 b1 hb2
        have b0 := blk_cell HB2.out 0 _ rfl
        go_wp2
        go_ret2
        rw [HT.out]
        exact ⟨rfl, HX2.out⟩
  · have HT : Hid (t.name id = (⟨#[]⟩, false)) := Lib.hid (by unfold Tb.name; rw [if_neg (fun h => hin ⟨h.1, h.2.1⟩)])
    by_cases hn : id < 0
    · go_enter Try.func15, Try.ntmps15
      go_wp2_with (rw [HW1.out])
      go_ret2
      rw [HT.out]
      exact ⟨rfl, by first | exact HX1.out | (rw [HW1.out]; exact HX1.out)⟩
    · have hb : (t.ss.length : Int) < id := by omega
      go_enter Try.func15, Try.ntmps15
      go_wp2_with (rw [HW1.out])
      go_ret2
      rw [HT.out]
      exact ⟨rfl, by first | exact HX1.out | (rw [HW1.out]; exact HX1.out)⟩

end Go.Proofs.Ythkalaohaholaaa
