/-
  Contracts of the document's SameStack and SameFrames.
-/
import Derived.Test.YthkalaohaholaaaIn
import Derived.DeepKeys
set_option linter.unusedVariables false
set_option linter.unusedSimpArgs false
namespace Go.Proofs.Ythkalaohaholaaa
open Go.RowKit Go.Maps

def FrIn (f : Int × Int) : Prop := i64in f.1 ∧ i64in f.2
def FcIn (f : ByteArray × Int) : Prop := f.1.size ≤ maxLen ∧ i64in f.2
theorem eq_fr (x y : Int × Int) (hx : FrIn x) (hy : FrIn y) : ∀ w, (Op.equalIn 10000 54 (.agg #[.int .i64 x.1, .int .i64 x.2]) (.agg #[.int .i64 y.1, .int .i64 y.2])).run Try.prog w = .ok (decide (x = y)) w := fun w => by
  have k := fun (p : Int × Int) (hp : FrIn p) => keyLits_two (P := Try.prog) (ta := 54) (ti := 3) Try.underlying54 Try.underlying3 (by kernel_rfl) (by kernel_rfl) 8 hp.1 hp.2
  obtain ⟨r, hr, hiff⟩ := run_equalIn_deep (P := Try.prog) 9990 10 54 (by kernel_rfl) w 10 10 (.agg #[.int .i64 x.1, .int .i64 x.2]) (.agg #[.int .i64 y.1, .int .i64 y.2]) _ _ (by unfold Value.formed; rw [Try.underlying54]; exact (by kernel_rfl)) (by unfold Value.formed; rw [Try.underlying54]; exact (by kernel_rfl)) (k x hx) (k y hy)
  have e : r = decide (x = y) := by
    rw [Bool.eq_iff_iff, hiff, decide_eq_true_eq]
    simp [Prod.ext_iff]
  rw [← e]
  exact hr
theorem keyLits_frame {P : Program} {t ti : TypeId} {f0 f1 : Field} (ht : P.underlying t = some (.struct #[f0, f1])) (hs : P.underlying f0.type = some .string) (hi : P.underlying f1.type = some (.int .i64)) (c2 : P.cellsOf t = 2) (c0 : P.cellsOf f0.type = 1) (c1 : P.cellsOf f1.type = 1)
    (n0 : (f0.name != "_") = true) (n1 : (f1.name != "_") = true) (o0 : f0.offset = 0) (o1 : f1.offset = 1) (d : Nat) {s : ByteArray} {a : Int} (h1 : s.size ≤ maxLen) (h2 : i64in a) : P.keyLits (d + 2) t [.string s, .int .i64 a] = some [.string s.data.toList, .int .i64 a] := by
  unfold Program.keyLits
  simp [ht, c2, n0, n1, o0, o1, c0, c1, keyLits_string hs d h1, keyLits_int hi d h2]
theorem eq_fc (x y : ByteArray × Int) (hx : FcIn x) (hy : FcIn y) : ∀ w, (Op.equalIn 10000 45 (.agg #[.string x.1, .int .i64 x.2]) (.agg #[.string y.1, .int .i64 y.2])).run Try.prog w = .ok (decide (x = y)) w := fun w => by
  have k := fun (p : ByteArray × Int) (hp : FcIn p) => keyLits_frame (P := Try.prog) (t := 45) (ti := 3) Try.underlying45 Try.underlying9 Try.underlying3 (by kernel_rfl) (by kernel_rfl) (by kernel_rfl) (by kernel_rfl) (by kernel_rfl) rfl rfl 8 hp.1 hp.2
  obtain ⟨r, hr, hiff⟩ := run_equalIn_deep (P := Try.prog) 9990 10 45 (by kernel_rfl) w 10 10 (.agg #[.string x.1, .int .i64 x.2]) (.agg #[.string y.1, .int .i64 y.2]) _ _ (by unfold Value.formed; rw [Try.underlying45]; exact (by kernel_rfl)) (by unfold Value.formed; rw [Try.underlying45]; exact (by kernel_rfl)) (k x hx) (k y hy)
  have e : r = decide (x = y) := by
    rw [Bool.eq_iff_iff, hiff, decide_eq_true_eq]
    obtain ⟨s, a⟩ := x
    obtain ⟨u, b⟩ := y
    simp only [List.cons.injEq, Lit.string.injEq, Lit.int.injEq, true_and, and_true, Prod.mk.injEq]
    constructor
    · rintro ⟨h1, h2⟩
      refine ⟨ByteArray.ext (Array.toList_inj.1 h1), h2⟩
    · rintro ⟨h1, h2⟩
      exact ⟨by rw [h1], h2⟩
  rw [← e]
  exact hr

set_option maxRecDepth 100000 in
set_option maxHeartbeats 4000000 in
theorem rsamestk_any (u v : Value) (xs ys : List (Int × Int)) (w : World) (h1 : RowsAt 2 frL w u xs) (h2 : RowsAt 2 frL w v ys) (ho1 : ∀ f ∈ xs, FrIn f) (ho2 : ∀ f ∈ ys, FrIn f) (hn : xs.length ≤ 100000) :
    Calls Try.prog 31 #[u, v] w fun e w' => e = .returned (.bool (decide (xs = ys))) ∧ Ext w w' := by
  obtain ⟨A, c, rfl, hc⟩ := h1.form
  obtain ⟨B, d, rfl, hd⟩ := h2.form
  have H1 := Lib.hid h1
  have H2 := Lib.hid h2
  have HO1 := Lib.hid ho1
  have HO2 := Lib.hid ho2
  clear h1 h2 ho1 ho2
  by_cases hne : xs.length = ys.length
  · have hb0 : ((xs.length : Int) != (ys.length : Int)) = false := by simp; omega
    have HL := Lib.hid hne
    clear hne
    go_enter Try.func31, Try.ntmps31
    go_wp2
    go_loopw [5] (fun iv wr => ∃ k : Nat, k ≤ xs.length ∧ iv = .int .i64 k ∧ Hid (xs.take k = ys.take k) ∧ Ext w wr) (fun iv _ => xs.length - (intOf iv).toNat)
    case atStart => exact ⟨0, by omega, rfl, Lib.hid (by simp), Ext.refl _⟩
    case round =>
      obtain ⟨k, hk, rfl, HEQ, hx⟩ := hrel
      have HX := Lib.hid hx
      clear hx
      by_cases hlt : k < xs.length
      · have hlt2 : k < ys.length := by have := HL.out; omega
        obtain ⟨x, hxe⟩ : ∃ x, xs[k]? = some x := ⟨_, List.getElem?_eq_getElem hlt⟩
        obtain ⟨y, hye⟩ : ∃ y, ys[k]? = some y := ⟨_, List.getElem?_eq_getElem hlt2⟩
        have HXE := Lib.hid hxe
        have HYE := Lib.hid hye
        have hxg := (List.getElem?_eq_some_iff.1 hxe).2
        have hyg := (List.getElem?_eq_some_iff.1 hye).2
        have HT : Hid (xs.take (k + 1) = xs.take k ++ [x]) := Lib.hid (by rw [List.take_succ_eq_append_getElem hlt, hxg])
        have HT' : Hid (ys.take (k + 1) = ys.take k ++ [y]) := Lib.hid (by rw [List.take_succ_eq_append_getElem hlt2, hyg])
        have HNE : Hid (x ≠ y → decide (xs = ys) = false) := Lib.hid fun hne => decide_eq_false fun hh => hne (by
          subst hh
          have h1 := HXE.out
          rw [HYE.out] at h1
          exact (Option.some.inj h1).symm)
        obtain ⟨hox, hoy⟩ := And.intro (HO1.out x (List.mem_of_getElem? hxe)) (HO2.out y (List.mem_of_getElem? hye))
        obtain ⟨b1, o1, rfl, hb1, a0, a1⟩ := frs_get H1.out hxe
        obtain ⟨b2, o2, rfl, hb2, e0, e1⟩ := frs_get H2.out hye
        have HC : Hid (∀ v, Ext wr v → v.cell? ⟨b1, o1 + k * 2, none⟩ = some (.int .i64 x.1) ∧ v.cell? ⟨b1, o1 + k * 2 + 1, none⟩ = some (.int .i64 x.2)) := Lib.hid fun v hv =>
          ⟨(Below.cell (HX.out.trans hv) hb1).trans a0, (Below.cell (HX.out.trans hv) hb1).trans a1⟩
        have HC' : Hid (∀ v, Ext wr v → v.cell? ⟨b2, o2 + k * 2, none⟩ = some (.int .i64 y.1) ∧ v.cell? ⟨b2, o2 + k * 2 + 1, none⟩ = some (.int .i64 y.2)) := Lib.hid fun v hv =>
          ⟨(Below.cell (HX.out.trans hv) hb2).trans e0, (Below.cell (HX.out.trans hv) hb2).trans e1⟩
        have i0 : (0 : Int) ≤ (k : Int) := by omega
        have i1 : (k : Int) < (xs.length : Int) := by omega
        have i2 : (k : Int) < (ys.length : Int) := by omega
        have hqq := eq_fr x y hox hoy
        clear hxe hye hxg hyg a0 a1 e0 e1
        by_cases hxy : x = y
        · rw [decide_eq_true hxy] at hqq
          have HEN : Hid (xs.take (k + 1) = ys.take (k + 1)) := Lib.hid (by rw [HT.out, HT'.out, HEQ.out, hxy])
          clear hxy
          go_upto_region 6 with fail
          refine region_rgx ([]) (wr) (by kernel_rfl) (by kernel_rfl) ?_ ?_ ?_
          · exact List.forall_mem_nil _
          · first | assumption | exact Ext.refl _
          refine rg_pure (v := ?_) rfl (by kernel_rfl) (by kernel_rfl) (fun w hS hN => ?_) ?_
          rotate_left 1
          · clear hN
            go_simp
            refine givesP_mk ?_
            with_reducible rfl
          refine rg_pure (v := ?_) rfl (by kernel_rfl) (by kernel_rfl) (fun w hS hN => ?_) ?_
          rotate_left 1
          · clear hN
            go_simp
            refine givesP_mk ?_
            with_reducible rfl
          refine rg_pure (v := ?_) rfl (by kernel_rfl) (by kernel_rfl) (fun w hS hN => ?_) ?_
          rotate_left 1
          · clear hN
            go_simp
            refine givesP_mk ?_
            with_reducible rfl
          refine rg_pure (v := ?_) rfl (by kernel_rfl) (by kernel_rfl) (fun w hS hN => ?_) ?_
          rotate_left 1
          · obtain ⟨k1, k2⟩ := HC.out w hS
            clear hN
            go_simp
            refine givesP_mk ?_
            with_reducible rfl
          refine rg_pure (v := ?_) rfl (by kernel_rfl) (by kernel_rfl) (fun w hS hN => ?_) ?_
          rotate_left 1
          · clear hN
            go_simp
            refine givesP_mk ?_
            with_reducible rfl
          refine rg_pure (v := ?_) rfl (by kernel_rfl) (by kernel_rfl) (fun w hS hN => ?_) ?_
          rotate_left 1
          · clear hN
            go_simp
            refine givesP_mk ?_
            with_reducible rfl
          refine rg_pure (v := ?_) rfl (by kernel_rfl) (by kernel_rfl) (fun w hS hN => ?_) ?_
          rotate_left 1
          · clear hN
            go_simp
            refine givesP_mk ?_
            with_reducible rfl
          refine rg_pure (v := ?_) rfl (by kernel_rfl) (by kernel_rfl) (fun w hS hN => ?_) ?_
          rotate_left 1
          · obtain ⟨k1, k2⟩ := HC'.out w hS
            clear hN
            go_simp
            refine givesP_mk ?_
            with_reducible rfl
          refine rg_pure (v := ?_) rfl (by kernel_rfl) (by kernel_rfl) (fun w hS hN => ?_) ?_
          rotate_left 1
          · clear hN
            go_simp
            refine givesP_mk ?_
            with_reducible rfl
          refine rg_done rfl (Nat.le_of_ble_eq_true (by kernel_rfl)) ?_
          intro w8 hS hT
          have HX8 := Lib.hid (HX.out.trans hS)
          clear hT hS hqq
          go_simp
          go_wp2
          go_roundw
          case rel => exact ⟨k + 1, by omega, by go_num, HEN, HX8.out⟩
          case measure => simp [intOf]; omega
        · rw [decide_eq_false hxy] at hqq
          have HRR := Lib.hid (HNE.out hxy)
          clear hxy
          go_upto_region 6 with fail
          refine region_rgx ([]) (wr) (by kernel_rfl) (by kernel_rfl) ?_ ?_ ?_
          · exact List.forall_mem_nil _
          · first | assumption | exact Ext.refl _
          refine rg_pure (v := ?_) rfl (by kernel_rfl) (by kernel_rfl) (fun w hS hN => ?_) ?_
          rotate_left 1
          · clear hN
            go_simp
            refine givesP_mk ?_
            with_reducible rfl
          refine rg_pure (v := ?_) rfl (by kernel_rfl) (by kernel_rfl) (fun w hS hN => ?_) ?_
          rotate_left 1
          · clear hN
            go_simp
            refine givesP_mk ?_
            with_reducible rfl
          refine rg_pure (v := ?_) rfl (by kernel_rfl) (by kernel_rfl) (fun w hS hN => ?_) ?_
          rotate_left 1
          · clear hN
            go_simp
            refine givesP_mk ?_
            with_reducible rfl
          refine rg_pure (v := ?_) rfl (by kernel_rfl) (by kernel_rfl) (fun w hS hN => ?_) ?_
          rotate_left 1
          · obtain ⟨k1, k2⟩ := HC.out w hS
            clear hN
            go_simp
            refine givesP_mk ?_
            with_reducible rfl
          refine rg_pure (v := ?_) rfl (by kernel_rfl) (by kernel_rfl) (fun w hS hN => ?_) ?_
          rotate_left 1
          · clear hN
            go_simp
            refine givesP_mk ?_
            with_reducible rfl
          refine rg_pure (v := ?_) rfl (by kernel_rfl) (by kernel_rfl) (fun w hS hN => ?_) ?_
          rotate_left 1
          · clear hN
            go_simp
            refine givesP_mk ?_
            with_reducible rfl
          refine rg_pure (v := ?_) rfl (by kernel_rfl) (by kernel_rfl) (fun w hS hN => ?_) ?_
          rotate_left 1
          · clear hN
            go_simp
            refine givesP_mk ?_
            with_reducible rfl
          refine rg_pure (v := ?_) rfl (by kernel_rfl) (by kernel_rfl) (fun w hS hN => ?_) ?_
          rotate_left 1
          · obtain ⟨k1, k2⟩ := HC'.out w hS
            clear hN
            go_simp
            refine givesP_mk ?_
            with_reducible rfl
          refine rg_pure (v := ?_) rfl (by kernel_rfl) (by kernel_rfl) (fun w hS hN => ?_) ?_
          rotate_left 1
          · clear hN
            go_simp
            refine givesP_mk ?_
            with_reducible rfl
          refine rg_done rfl (Nat.le_of_ble_eq_true (by kernel_rfl)) ?_
          intro w8 hS hT
          have HX8 := Lib.hid (HX.out.trans hS)
          clear hT hS hqq
          go_simp
          go_wp2
          go_ret
          exact ⟨by rw [HRR.out] <;> rfl, HX8.out⟩
      · obtain rfl : k = xs.length := by omega
        have HPQ : Hid (decide (xs = ys) = true) := Lib.hid (by have h1 := HEQ.out; rw [List.take_length, HL.out, List.take_length] at h1; exact decide_eq_true h1)
        go_wp2
        go_ret
        exact ⟨by rw [HPQ.out] <;> rfl, HX.out⟩
  · have hb0 : ((xs.length : Int) != (ys.length : Int)) = true := by simp; omega
    have hr : decide (xs = ys) = false := decide_eq_false fun hh => hne (by rw [hh])
    rw [hr]
    go_enter Try.func31, Try.ntmps31
    go_wp2
    go_ret
    exact ⟨rfl, Ext.refl _⟩

set_option maxRecDepth 100000 in
set_option maxHeartbeats 4000000 in
theorem rsamefr_any (u v : Value) (xs ys : List (ByteArray × Int)) (w : World) (h1 : RowsAt 2 fcL w u xs) (h2 : RowsAt 2 fcL w v ys) (ho1 : ∀ f ∈ xs, FcIn f) (ho2 : ∀ f ∈ ys, FcIn f) (hn : xs.length ≤ 100000) :
    Calls Try.prog 22 #[u, v] w fun e w' => e = .returned (.bool (decide (xs = ys))) ∧ Ext w w' := by
  obtain ⟨A, c, rfl, hc⟩ := h1.form
  obtain ⟨B, d, rfl, hd⟩ := h2.form
  have H1 := Lib.hid h1
  have H2 := Lib.hid h2
  have HO1 := Lib.hid ho1
  have HO2 := Lib.hid ho2
  clear h1 h2 ho1 ho2
  by_cases hne : xs.length = ys.length
  · have hb0 : ((xs.length : Int) != (ys.length : Int)) = false := by simp; omega
    have HL := Lib.hid hne
    clear hne
    go_enter Try.func22, Try.ntmps22
    go_wp2
    go_loopw [5] (fun iv wr => ∃ k : Nat, k ≤ xs.length ∧ iv = .int .i64 k ∧ Hid (xs.take k = ys.take k) ∧ Ext w wr) (fun iv _ => xs.length - (intOf iv).toNat)
    case atStart => exact ⟨0, by omega, rfl, Lib.hid (by simp), Ext.refl _⟩
    case round =>
      obtain ⟨k, hk, rfl, HEQ, hx⟩ := hrel
      have HX := Lib.hid hx
      clear hx
      by_cases hlt : k < xs.length
      · have hlt2 : k < ys.length := by have := HL.out; omega
        obtain ⟨x, hxe⟩ : ∃ x, xs[k]? = some x := ⟨_, List.getElem?_eq_getElem hlt⟩
        obtain ⟨y, hye⟩ : ∃ y, ys[k]? = some y := ⟨_, List.getElem?_eq_getElem hlt2⟩
        have HXE := Lib.hid hxe
        have HYE := Lib.hid hye
        have hxg := (List.getElem?_eq_some_iff.1 hxe).2
        have hyg := (List.getElem?_eq_some_iff.1 hye).2
        have HT : Hid (xs.take (k + 1) = xs.take k ++ [x]) := Lib.hid (by rw [List.take_succ_eq_append_getElem hlt, hxg])
        have HT' : Hid (ys.take (k + 1) = ys.take k ++ [y]) := Lib.hid (by rw [List.take_succ_eq_append_getElem hlt2, hyg])
        have HNE : Hid (x ≠ y → decide (xs = ys) = false) := Lib.hid fun hne => decide_eq_false fun hh => hne (by
          subst hh
          have h1 := HXE.out
          rw [HYE.out] at h1
          exact (Option.some.inj h1).symm)
        obtain ⟨hox, hoy⟩ := And.intro (HO1.out x (List.mem_of_getElem? hxe)) (HO2.out y (List.mem_of_getElem? hye))
        obtain ⟨b1, o1, rfl, hb1, a0, a1⟩ := fcs_get H1.out hxe
        obtain ⟨b2, o2, rfl, hb2, e0, e1⟩ := fcs_get H2.out hye
        have HC : Hid (∀ v, Ext wr v → v.cell? ⟨b1, o1 + k * 2, none⟩ = some (.string x.1) ∧ v.cell? ⟨b1, o1 + k * 2 + 1, none⟩ = some (.int .i64 x.2)) := Lib.hid fun v hv =>
          ⟨(Below.cell (HX.out.trans hv) hb1).trans a0, (Below.cell (HX.out.trans hv) hb1).trans a1⟩
        have HC' : Hid (∀ v, Ext wr v → v.cell? ⟨b2, o2 + k * 2, none⟩ = some (.string y.1) ∧ v.cell? ⟨b2, o2 + k * 2 + 1, none⟩ = some (.int .i64 y.2)) := Lib.hid fun v hv =>
          ⟨(Below.cell (HX.out.trans hv) hb2).trans e0, (Below.cell (HX.out.trans hv) hb2).trans e1⟩
        have i0 : (0 : Int) ≤ (k : Int) := by omega
        have i1 : (k : Int) < (xs.length : Int) := by omega
        have i2 : (k : Int) < (ys.length : Int) := by omega
        have hqq := eq_fc x y hox hoy
        clear hxe hye hxg hyg a0 a1 e0 e1
        by_cases hxy : x = y
        · rw [decide_eq_true hxy] at hqq
          have HEN : Hid (xs.take (k + 1) = ys.take (k + 1)) := Lib.hid (by rw [HT.out, HT'.out, HEQ.out, hxy])
          clear hxy
          go_upto_region 6 with fail
          refine region_rgx ([]) (wr) (by kernel_rfl) (by kernel_rfl) ?_ ?_ ?_
          · exact List.forall_mem_nil _
          · first | assumption | exact Ext.refl _
          refine rg_pure (v := ?_) rfl (by kernel_rfl) (by kernel_rfl) (fun w hS hN => ?_) ?_
          rotate_left 1
          · clear hN
            go_simp
            refine givesP_mk ?_
            with_reducible rfl
          refine rg_pure (v := ?_) rfl (by kernel_rfl) (by kernel_rfl) (fun w hS hN => ?_) ?_
          rotate_left 1
          · clear hN
            go_simp
            refine givesP_mk ?_
            with_reducible rfl
          refine rg_pure (v := ?_) rfl (by kernel_rfl) (by kernel_rfl) (fun w hS hN => ?_) ?_
          rotate_left 1
          · clear hN
            go_simp
            refine givesP_mk ?_
            with_reducible rfl
          refine rg_pure (v := ?_) rfl (by kernel_rfl) (by kernel_rfl) (fun w hS hN => ?_) ?_
          rotate_left 1
          · obtain ⟨k1, k2⟩ := HC.out w hS
            clear hN
            go_simp
            refine givesP_mk ?_
            with_reducible rfl
          refine rg_pure (v := ?_) rfl (by kernel_rfl) (by kernel_rfl) (fun w hS hN => ?_) ?_
          rotate_left 1
          · clear hN
            go_simp
            refine givesP_mk ?_
            with_reducible rfl
          refine rg_pure (v := ?_) rfl (by kernel_rfl) (by kernel_rfl) (fun w hS hN => ?_) ?_
          rotate_left 1
          · clear hN
            go_simp
            refine givesP_mk ?_
            with_reducible rfl
          refine rg_pure (v := ?_) rfl (by kernel_rfl) (by kernel_rfl) (fun w hS hN => ?_) ?_
          rotate_left 1
          · clear hN
            go_simp
            refine givesP_mk ?_
            with_reducible rfl
          refine rg_pure (v := ?_) rfl (by kernel_rfl) (by kernel_rfl) (fun w hS hN => ?_) ?_
          rotate_left 1
          · obtain ⟨k1, k2⟩ := HC'.out w hS
            clear hN
            go_simp
            refine givesP_mk ?_
            with_reducible rfl
          refine rg_pure (v := ?_) rfl (by kernel_rfl) (by kernel_rfl) (fun w hS hN => ?_) ?_
          rotate_left 1
          · clear hN
            go_simp
            refine givesP_mk ?_
            with_reducible rfl
          refine rg_done rfl (Nat.le_of_ble_eq_true (by kernel_rfl)) ?_
          intro w8 hS hT
          have HX8 := Lib.hid (HX.out.trans hS)
          clear hT hS hqq
          go_simp
          go_wp2
          go_roundw
          case rel => exact ⟨k + 1, by omega, by go_num, HEN, HX8.out⟩
          case measure => simp [intOf]; omega
        · rw [decide_eq_false hxy] at hqq
          have HRR := Lib.hid (HNE.out hxy)
          clear hxy
          go_upto_region 6 with fail
          refine region_rgx ([]) (wr) (by kernel_rfl) (by kernel_rfl) ?_ ?_ ?_
          · exact List.forall_mem_nil _
          · first | assumption | exact Ext.refl _
          refine rg_pure (v := ?_) rfl (by kernel_rfl) (by kernel_rfl) (fun w hS hN => ?_) ?_
          rotate_left 1
          · clear hN
            go_simp
            refine givesP_mk ?_
            with_reducible rfl
          refine rg_pure (v := ?_) rfl (by kernel_rfl) (by kernel_rfl) (fun w hS hN => ?_) ?_
          rotate_left 1
          · clear hN
            go_simp
            refine givesP_mk ?_
            with_reducible rfl
          refine rg_pure (v := ?_) rfl (by kernel_rfl) (by kernel_rfl) (fun w hS hN => ?_) ?_
          rotate_left 1
          · clear hN
            go_simp
            refine givesP_mk ?_
            with_reducible rfl
          refine rg_pure (v := ?_) rfl (by kernel_rfl) (by kernel_rfl) (fun w hS hN => ?_) ?_
          rotate_left 1
          · obtain ⟨k1, k2⟩ := HC.out w hS
            clear hN
            go_simp
            refine givesP_mk ?_
            with_reducible rfl
          refine rg_pure (v := ?_) rfl (by kernel_rfl) (by kernel_rfl) (fun w hS hN => ?_) ?_
          rotate_left 1
          · clear hN
            go_simp
            refine givesP_mk ?_
            with_reducible rfl
          refine rg_pure (v := ?_) rfl (by kernel_rfl) (by kernel_rfl) (fun w hS hN => ?_) ?_
          rotate_left 1
          · clear hN
            go_simp
            refine givesP_mk ?_
            with_reducible rfl
          refine rg_pure (v := ?_) rfl (by kernel_rfl) (by kernel_rfl) (fun w hS hN => ?_) ?_
          rotate_left 1
          · clear hN
            go_simp
            refine givesP_mk ?_
            with_reducible rfl
          refine rg_pure (v := ?_) rfl (by kernel_rfl) (by kernel_rfl) (fun w hS hN => ?_) ?_
          rotate_left 1
          · obtain ⟨k1, k2⟩ := HC'.out w hS
            clear hN
            go_simp
            refine givesP_mk ?_
            with_reducible rfl
          refine rg_pure (v := ?_) rfl (by kernel_rfl) (by kernel_rfl) (fun w hS hN => ?_) ?_
          rotate_left 1
          · clear hN
            go_simp
            refine givesP_mk ?_
            with_reducible rfl
          refine rg_done rfl (Nat.le_of_ble_eq_true (by kernel_rfl)) ?_
          intro w8 hS hT
          have HX8 := Lib.hid (HX.out.trans hS)
          clear hT hS hqq
          go_simp
          go_wp2
          go_ret
          exact ⟨by rw [HRR.out] <;> rfl, HX8.out⟩
      · obtain rfl : k = xs.length := by omega
        have HPQ : Hid (decide (xs = ys) = true) := Lib.hid (by have h1 := HEQ.out; rw [List.take_length, HL.out, List.take_length] at h1; exact decide_eq_true h1)
        go_wp2
        go_ret
        exact ⟨by rw [HPQ.out] <;> rfl, HX.out⟩
  · have hb0 : ((xs.length : Int) != (ys.length : Int)) = true := by simp; omega
    have hr : decide (xs = ys) = false := decide_eq_false fun hh => hne (by rw [hh])
    rw [hr]
    go_enter Try.func22, Try.ntmps22
    go_wp2
    go_ret
    exact ⟨rfl, Ext.refl _⟩

end Go.Proofs.Ythkalaohaholaaa
