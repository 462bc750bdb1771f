/-
  The walk of the statement StateNew.
-/
import Derived.Test.YtbcclhahpcbadaaK23
set_option linter.unusedVariables false
set_option linter.unusedSimpArgs false
namespace Go.Proofs.Ytbcclhahpcbadaa
open Go.RowKit

theorem plfield (a b : Int) (w : World) : (Instr.field 43 (.agg #[.int .i64 a, .int .i64 b]) 0).run Try.prog w = .ok (.int .i64 a) w := by kernel_rfl
theorem plfield1 (a b : Int) (w : World) : (Instr.field 43 (.agg #[.int .i64 a, .int .i64 b]) 1).run Try.prog w = .ok (.int .i64 b) w := by kernel_rfl
theorem holdP_nil (p : List (List (Int × Int))) (n : Int) (j : Nat) : (St.made p n).holdP j nilPr = true := by
  unfold St.holdP
  have h1 : nilPr.ring.may = true := by decide +kernel
  rw [h1]
  simp [nilPr, St.low, St.made]
theorem made_may {p : List (List (Int × Int))} {n : Int} (h : Pg.may p = true ∧ 1 ≤ n ∧ n ≤ 8) : (St.made p n).may = true := by
  have hp := Pg.may_iff.1 h.1
  have hr : (St.made p n).runs = [1] := rfl
  have hw : (St.made p n).waiters = [] := rfl
  have ht : (St.made p n).onM true = [] := rfl
  have hf : (St.made p n).onM false = [] := rfl
  have c1 : (St.made p n).whole = true := by
    unfold St.whole
    rw [Bool.and_eq_true, Bool.and_eq_true, Bool.and_eq_true]
    refine ⟨⟨⟨h.1, ?_⟩, ?_⟩, ?_⟩
    · rw [decide_eq_true_eq]; simp [St.made, h.2]
    · show St.low 0 = true; decide
    · show decide (Sl.May []) = true; decide
  have c2 : (St.made p n).goods = true := by
    unfold St.goods
    rw [List.all_eq_true]
    intro g hg
    have : g = ⟨0, 0, 1, 0, 0⟩ := by simpa [St.made] using hg
    subst this
    unfold St.good
    have h0 : (0 : Int) < (p.length : Int) := by omega
    simp [St.low, St.made, h0]
    omega
  have c3 : (St.made p n).holds = true := by
    unfold St.holds
    rw [Bool.and_eq_true]
    refine ⟨allIx_yes fun j x hj => ?_, rfl⟩
    have : x = nilPr := List.eq_of_mem_replicate (show x ∈ List.replicate 8 nilPr from List.mem_of_getElem? hj)
    subst this
    exact holdP_nil p n j
  have c4 : (St.made p n).counts = true := rfl
  have c5 : (St.made p n).allIn = true := by
    unfold St.allIn
    rw [hr, hw, ht, hf]
    rfl
  have c6 : allIx (St.made p n).stands 0 (St.made p n).gs = true := by
    refine allIx_yes fun j g hj => ?_
    match j with
    | 0 =>
      have : g = ⟨0, 0, 1, 0, 0⟩ := by simpa [St.made] using hj.symm
      subst this
      unfold St.stands
      rw [hr, hw, ht, hf]
      simp [St.times, St.want]
    | j + 1 => simp [St.made] at hj
  unfold St.may
  rw [c1, c2, c3, c4, c5, c6]
  rfl
theorem made_place {p : List (List (Int × Int))} {n : Int} (h : Pg.may p = true ∧ 1 ≤ n ∧ n ≤ 8) : (St.made p n).place 1 = (3, 0) := by
  have := St.place_yes (j := 0) (made_may h) (g := ⟨0, 0, 1, 0, 0⟩) rfl
  rw [show ((0 : Nat) : Int) + 1 = 1 from rfl] at this
  rw [this]
  unfold St.placeOf
  rw [if_pos rfl]
  show placeAt 1 (List.replicate 8 nilPr) 0 = _
  decide +kernel
theorem made_few {p : List (List (Int × Int))} {n : Int} (h1 : p.length ≤ 100000) (h2 : ∀ l ∈ p, l.length ≤ 100000) : StFew (St.made p n) :=
  ⟨⟨h1, h2⟩, by simp [St.made], by simp [St.made], by simp [St.made], by simp [St.made], by simp [St.made], by simp [St.made], by simp [St.made]⟩
theorem nil_few : StFew St.nil := ⟨by simp [St.nil], by simp [St.nil], by simp [St.nil], by simp [St.nil], by simp [St.nil], by simp [St.nil], by simp [St.nil], by simp [St.nil]⟩
set_option maxRecDepth 100000 in
set_option maxHeartbeats 8000000 in
theorem walk_StateNew (v : Value) (q : List (List (Int × Int))) (n : Int) (W : World) (h : NestAt 2 pairL W v q) (hz : q.length ≤ maxLen ∧ ∀ l ∈ q, l.length ≤ maxLen) (hn : (Lit.int .i64 n).wf = true) :
    Calls Try.prog 5 #[v, .int .i64 n] W fun e w' => e = .returned (.bool true) ∧ Ext W w' := by
  have H := Lib.hid h
  have HZ := Lib.hid hz
  obtain ⟨A, c, rfl⟩ := h.form2
  clear h hz hn
  go_enter Try.func5, Try.ntmps5
  go_wp2_with fail
  refine (tfixed_yes W).mono ?_
  rintro e w1 ⟨rfl, hx1⟩
  have HX1 := Lib.hid hx1
  clear hx1
  go_wp2_with fail
  refine (rpsmall_any _ q _ rfl w1 (H.out.ext HX1.out) (by have := HZ.out.1; unfold maxLen at this; omega) (fun l hl => by have := HZ.out.2 l hl; unfold maxLen at this; omega)).mono ?_
  rintro e w' ⟨rfl, rfl⟩
  cases bs : Pg.small q with
  | false =>
    go_wp2_with fail
    refine (tfixed_yes _).mono ?_
    rintro e w2 ⟨rfl, hx2⟩
    have HX2 := Lib.hid (HX1.out.trans hx2)
    clear hx2
    go_wp2
    go_ret
    exact ⟨rfl, HX2.out⟩
  | true =>
  have HSM := Lib.hid (Pg.small_iff.1 bs)
  have HL : Hid (q.length ≤ 100000 ∧ ∀ l ∈ q, l.length ≤ 100000) := Lib.hid ⟨by have := HSM.out.2; omega, fun l hl => by have := HSM.out.1 l hl; omega⟩
  clear bs
  go_wp2_with fail
  by_cases hok : Pg.may q = true ∧ 1 ≤ n ∧ n ≤ 8
  · refine (sNew_any _ q n _ (St.new_yes hok) w' (H.out.ext HX1.out) HL.out.1 HL.out.2).mono ?_
    rintro e wa ⟨h1, rfl, hk1, hxa⟩
    simp only
    obtain ⟨wb, wc, hwb, hwc, hth, hbc, hxc⟩ := st_box wa h1 (St.made q n)
    have HWB := Lib.hid hwb
    have HWC := Lib.hid hwc
    have HTH := Lib.hid hth
    have HLD0 := Lib.hid hbc
    have HX3 := Lib.hid (HX1.out.trans (hxa.trans hxc))
    have HK := Lib.hid (hk1.ext hxc)
    have HOK := Lib.hid hok
    clear hwb hwc hth hbc hxc hk1 hxa hok
    go_upto_region 6 with (first | rw [HWB.out] | (refine wpList_store_row rfl 32 _ _ rfl wa.heap.size (stL h1 (St.made q n)) (stV h1 (St.made q n)) rfl rfl rfl HTH.out (by kernel_rfl) (stL_one _ _) HWC.out ?_))
    have HLD := HLD0
    go_wp2_with (refine wpList_load_rowW rfl 32 _ rfl wa.heap.size rfl (stL h1 (St.made q n)) (stV h1 (St.made q n)) rfl _ (range_row HLD.out) Try.underlying32 rfl (by kernel_rfl) ?_)
    refine (sstmay_any h1 _ _ (made_may HOK.out) _ HK.out (made_few HL.out.1 HL.out.2)).mono ?_
    rintro e wd ⟨rfl, hxd⟩
    have HXD := Lib.hid hxd
    obtain ⟨we, hwe⟩ : ∃ we, wd.alloc (.cells #[.int .i64 1] 3) = we := ⟨_, rfl⟩
    have HWE := Lib.hid hwe
    have HXE : Hid (Ext wc we) := Lib.hid (by rw [← hwe]; exact hxd.alloc _)
    have HI1 : Hid (IntsAt we (.slice (some ⟨wd.heap.size, 0, none⟩) 1 1) [1]) := Lib.hid (by rw [← hwe]; exact (ints_made1 wd 1).at.2)
    have q15 : wd.cell? ⟨wa.heap.size, 15, none⟩ = some (.int .i64 n) := st15 (hxd.blk HLD0.out)
    have q1 : wd.cell? ⟨wa.heap.size, 1, none⟩ = some (.slice h1.ga 1 h1.gc) := st1 (hxd.blk HLD0.out)
    have q3 : wd.cell? ⟨wa.heap.size, 3, none⟩ = some (.slice h1.ma 0 h1.mc) := st3 (hxd.blk HLD0.out)
    have q4 : wd.cell? ⟨wa.heap.size, 4, none⟩ = some (.slice h1.la 1 h1.lc) := st4 (hxd.blk HLD0.out)
    clear hwe hxd
    go_wp2_with (rw [HWE.out])
    clear q15 q1 q3 q4
    refine (rints_eq _ _ [1] [1] true (by decide) _ (HK.out.ext HXE.out).glob HI1.out (by decide)).mono ?_
    rintro e wf ⟨rfl, hxf⟩
    have HXF := Lib.hid (HXE.out.trans hxf)
    clear HLD
    have HLD := Lib.hid (HXF.out.blk HLD0.out)
    clear hxf
    go_wp2_with (refine wpList_load_rowW rfl 32 _ rfl wa.heap.size rfl (stL h1 (St.made q n)) (stV h1 (St.made q n)) rfl _ (range_row HLD.out) Try.underlying32 rfl (by kernel_rfl) ?_)
    refine (sPlace_any h1 _ 1 _ (made_place HOK.out) _ (HK.out.ext HXF.out) (made_few HL.out.1 HL.out.2)).mono ?_
    rintro e wg ⟨rfl, hxg⟩
    have HXG := Lib.hid (HX3.out.trans (HXF.out.trans hxg))
    clear hxg
    unfold plV
    simp only
    have hfield := plfield 3 0
    go_wp2
    go_ret
    exact ⟨rfl, HXG.out⟩
  · refine (sNew_any _ q n _ (St.new_no hok) w' (H.out.ext HX1.out) HL.out.1 HL.out.2).mono ?_
    rintro e wa ⟨h1, rfl, hk1, hxa⟩
    simp only
    obtain ⟨wb, wc, hwb, hwc, hth, hbc, hxc⟩ := st_box wa h1 St.nil
    have HWB := Lib.hid hwb
    have HWC := Lib.hid hwc
    have HTH := Lib.hid hth
    have HLD0 := Lib.hid hbc
    have HX3 := Lib.hid (HX1.out.trans (hxa.trans hxc))
    have HK := Lib.hid (hk1.ext hxc)
    have HOK := Lib.hid hok
    have HPM := Lib.hid (rpmay_any _ q _ rfl wc (H.out.ext HX3.out) HL.out.1 HL.out.2)
    clear hwb hwc hth hbc hxc hk1 hxa hok
    go_upto_region 5 with (first | rw [HWB.out] | (refine wpList_store_row rfl 32 _ _ rfl wa.heap.size (stL h1 St.nil) (stV h1 St.nil) rfl rfl rfl HTH.out (by kernel_rfl) (stL_one _ _) HWC.out ?_))
    go_wp2_with fail
    refine HPM.out.mono ?_
    rintro e wd ⟨rfl, hxd⟩
    have HXD := Lib.hid hxd
    have HLD := Lib.hid (hxd.blk HLD0.out)
    clear hxd
    have HSA := Lib.hid (rstsame_any h1 StH.nil St.nil St.nil true (by simp) wd (HK.out.ext HXD.out) (StOk.nil wd) nil_few (by simp [St.nil]))
    cases bp : Pg.may q with
    | false =>
      go_wp2_with (refine wpList_load_rowW rfl 32 _ rfl wa.heap.size rfl (stL h1 St.nil) (stV h1 St.nil) rfl _ (range_row HLD.out) Try.underlying32 rfl (by kernel_rfl) ?_)
      refine HSA.out.mono ?_
      rintro e we ⟨rfl, hxe⟩
      have HXE := Lib.hid (HX3.out.trans (HXD.out.trans hxe))
      clear hxe
      go_wp2
      go_ret
      exact ⟨rfl, HXE.out⟩
    | true =>
      by_cases a1 : n < 1
      · go_wp2_with (refine wpList_load_rowW rfl 32 _ rfl wa.heap.size rfl (stL h1 St.nil) (stV h1 St.nil) rfl _ (range_row HLD.out) Try.underlying32 rfl (by kernel_rfl) ?_)
        refine HSA.out.mono ?_
        rintro e we ⟨rfl, hxe⟩
        have HXE := Lib.hid (HX3.out.trans (HXD.out.trans hxe))
        clear hxe
        go_wp2
        go_ret
        exact ⟨rfl, HXE.out⟩
      · have a2 : 8 < n := by have h1 := HOK.out; rw [bp] at h1; simp at h1; omega
        have a1' : decide (n < 1) = false := by simpa using a1
        clear a1
        go_wp2_with (refine wpList_load_rowW rfl 32 _ rfl wa.heap.size rfl (stL h1 St.nil) (stV h1 St.nil) rfl _ (range_row HLD.out) Try.underlying32 rfl (by kernel_rfl) ?_)
        refine HSA.out.mono ?_
        rintro e we ⟨rfl, hxe⟩
        have HXE := Lib.hid (HX3.out.trans (HXD.out.trans hxe))
        clear hxe
        go_wp2
        go_ret
        exact ⟨rfl, HXE.out⟩
end Go.Proofs.Ytbcclhahpcbadaa
