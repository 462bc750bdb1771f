/-
  Several texts in one: Jm, Jn, Jo, Ls, Lr, Lf, Lq, Ln.
-/
import Derived.Test.YtohncgikdlbogaaDoorD11
import Derived.Test.YtohncgikdlbogaaDoorD12
import Derived.Test.YtohncgikdlbogaaDoorD09
import Derived.Test.YtohncgikdlbogaaDoorD01
import Derived.Deep.Slices
import Derived.Deep.Fields
import Derived.ChangeSame
import Derived.SliceStrings
import Derived.Lib.SmallJoins
import Derived.Test.YtohncgikdlbogaaDoorD03
import Derived.Test.YtohncgikdlbogaaDoorD07
set_option linter.unusedVariables false
set_option linter.unusedSimpArgs false
namespace Go.Proofs.YtohncgikdlbogaaDoor
open Go.RowKit
theorem ln_two (w : World) (x : Array Value) (X : TypeId) (z : Array Value) (Z : TypeId) : ∃ w1, ((w.alloc (.cells x X)).alloc (.cells z Z)) = w1 ∧ Ext w w1 ∧ w1.heap[w.heap.size]? = some (.cells x X (0, 0)) ∧ w1.heap[w.heap.size + 1]? = some (.cells z Z (0, 0)) := by
  have s1 := World.size_alloc w (.cells x X)
  refine ⟨_, rfl, ((Ext.refl w).alloc _).alloc _, blk_alloc (blk_new w _) _, ?_⟩
  rw [← s1]; exact blk_new _ _
def LnAns (w : World) (r : List Sp) (e : Ending) (w' : World) : Prop := ∃ u, e = .returned u ∧ RowsAt 5 spL w' u r ∧ Ext w w'
set_option maxRecDepth 100000 in
set_option maxHeartbeats 8000000 in
theorem lnG_any (v vl : Value) (x : Sn) (es : List Le) (g : Int) (w : World) (hs : SnAt w v x) (hl : RowsAt 8 leL w vl es) (hn : es.length ≤ 1000) (he : ∀ e ∈ es, ∃ A n c, e.stack = .slice A n c) (r : List Sp) (hr : Sp.ofG x es g = r) :
    Calls Tryd.prog 9 #[v, vl, .int .i64 g] w (LnAns w r) := by
  obtain ⟨A, c, D, d, rfl, h2, h3⟩ := hs
  have hmf : ∀ (fn : Fn) (first cap : Array Value) (w : World), (Instr.makeFunc fn first cap).run Tryd.prog w = .ok (.func fn first cap) w := fun _ _ _ _ => rfl
  obtain ⟨w1, hw1, hx1, hb1, hg1⟩ := ln_two w #[.int .i64 x.time, .slice A x.ps.length c, .slice D x.gs.length d] 25 #[.int .i64 g] 3
  have HW1 := Lib.hid hw1
  have HX1 := Lib.hid hx1
  have HG1 := Lib.hid hg1
  have HSN : Hid (SnAt w1 (.agg #[.int .i64 x.time, .slice A x.ps.length c, .slice D x.gs.length d]) x) := Lib.hid ⟨A, c, D, d, rfl, h2.ext hx1, h3.ext hx1⟩
  have HLL := Lib.hid (hl.ext hx1)
  have HE := Lib.hid he
  have HRR := Lib.hid hr
  have c0 := blk_cell hb1 0 _ rfl
  have c1 := blk_cell hb1 1 _ rfl
  have c2 := blk_cell hb1 2 _ rfl
  clear hw1 hx1 hb1 hg1 h2 h3 hl he hr
  go_enter Tryd.func9, Tryd.ntmps9
  go_upto_region 1 with fail
  rw [HW1.out]
  go_wp2_with fail
  refine (spansG_any (Sp.lookG g) (Sp.whyG g) ⟨w.heap.size + 1, 0, none⟩ ⟨w.heap.size + 1, 0, none⟩ _ vl x es w1 HSN.out HLL.out hn HE.out (fun u y w' hx hy hm => ?_) (fun e w' hx => ?_) r HRR.out).mono ?_
  · exact lookG_any g (w.heap.size + 1) u y w' hy (by have := ((Sn.may_iff y).1 hm).2.2.1; omega) (blk_cell (hx.blk HG1.out) 0 _ rfl) (blk_lt (hx.blk HG1.out)) _ rfl
  · exact whyG_any g (w.heap.size + 1) e w' (blk_cell (hx.blk HG1.out) 0 _ rfl) (blk_lt (hx.blk HG1.out)) _ rfl
  rintro e w2 ⟨u, rfl, hr2, hx2⟩
  have HR2 := Lib.hid hr2
  have HX2 := Lib.hid hx2
  clear hr2 hx2 c0 c1 c2
  go_wp2
  go_ret
  exact ⟨u, rfl, HR2.out, HX1.out.trans HX2.out⟩
set_option maxRecDepth 100000 in
set_option maxHeartbeats 8000000 in
theorem lnP_any (v vl : Value) (x : Sn) (es : List Le) (p : Int) (w : World) (hs : SnAt w v x) (hl : RowsAt 8 leL w vl es) (hn : es.length ≤ 1000) (he : ∀ e ∈ es, ∃ A n c, e.stack = .slice A n c) (r : List Sp) (hr : Sp.ofP x es p = r) :
    Calls Tryd.prog 11 #[v, vl, .int .i64 p] w (LnAns w r) := by
  obtain ⟨A, c, D, d, rfl, h2, h3⟩ := hs
  have hmf : ∀ (fn : Fn) (first cap : Array Value) (w : World), (Instr.makeFunc fn first cap).run Tryd.prog w = .ok (.func fn first cap) w := fun _ _ _ _ => rfl
  obtain ⟨w1, hw1, hx1, hb1, hg1⟩ := ln_two w #[.int .i64 x.time, .slice A x.ps.length c, .slice D x.gs.length d] 25 #[.int .i64 p] 3
  have HW1 := Lib.hid hw1
  have HX1 := Lib.hid hx1
  have HG1 := Lib.hid hg1
  have HSN : Hid (SnAt w1 (.agg #[.int .i64 x.time, .slice A x.ps.length c, .slice D x.gs.length d]) x) := Lib.hid ⟨A, c, D, d, rfl, h2.ext hx1, h3.ext hx1⟩
  have HLL := Lib.hid (hl.ext hx1)
  have HE := Lib.hid he
  have HRR := Lib.hid hr
  have c0 := blk_cell hb1 0 _ rfl
  have c1 := blk_cell hb1 1 _ rfl
  have c2 := blk_cell hb1 2 _ rfl
  clear hw1 hx1 hb1 hg1 h2 h3 hl he hr
  go_enter Tryd.func11, Tryd.ntmps11
  go_upto_region 1 with fail
  rw [HW1.out]
  go_wp2_with fail
  refine (spansP_any (Sp.lookP p) (fun _ => ByteArray.empty) ⟨w.heap.size + 1, 0, none⟩ _ vl x es w1 HSN.out HLL.out hn HE.out (fun u y w' hx hy hm => ?_) (fun e w' hx => ?_) r HRR.out).mono ?_
  · exact lookP_any p (w.heap.size + 1) u y w' hy (by have := ((Sn.may_iff y).1 hm).2.1; omega) (blk_cell (hx.blk HG1.out) 0 _ rfl) (blk_lt (hx.blk HG1.out)) _ rfl
  · exact whyP_any e w'
  rintro e w2 ⟨u, rfl, hr2, hx2⟩
  have HR2 := Lib.hid hr2
  have HX2 := Lib.hid hx2
  clear hr2 hx2 c0 c1 c2
  go_wp2
  go_ret
  exact ⟨u, rfl, HR2.out, HX1.out.trans HX2.out⟩
theorem ts_push {W w : World} {u : Value} {l : List ByteArray} (h : OwnRows 9 1 tsL w W.heap.size u l) (hx : Ext W w) (y : ByteArray) (hl : l.length ≤ 1000000) :
    ∃ u' w', (Builtin.append_ #[62, 62] 62 #[u, .slice (some ⟨w.heap.size, 0, none⟩) 1 1]).run Tryd.prog (w.alloc (.cells (tsL y).toArray 9)) = .ok u' w' ∧ OwnRows 9 1 tsL w' W.heap.size u' (l ++ [y]) ∧ Ext W w' := by
  obtain ⟨i0, I0, I1, I2, I3⟩ := info_parts Tryd.infoTS
  obtain ⟨u', w', hr, ho, hg⟩ := OwnRows.append (P := Tryd.prog) (e := 9) (m := 1) (f := tsL) (xs := l) (ys := [y]) 62 Tryd.underlying62 I0 I1 I2 I3 rfl (by decide) tsL_len tsL_one (h.alloc (.cells (tsL y).toArray 9)) (rows_one w 9 y) (by simp [maxLen]; omega) (by simp; omega) (by have := hx.size; simp; omega)
  exact ⟨u', w', hr, ho, OwnRows.grown (W := W) (h.alloc _) (hx.alloc _) hg⟩
theorem ln_bytes_list {s : ByteArray} (h : ¬ s = ⟨#[]⟩) : s.toList.isEmpty = false ∧ ¬ s.toList = [] := by
  have h1 : ¬ s.toList = [] := fun e => h (by
    obtain ⟨⟨l⟩⟩ := s
    rw [ByteArray.toList_eq] at e
    simp only at e
    rw [e])
  exact ⟨by simpa using h1, h1⟩
theorem join_any (u : Value) (ws : List ByteArray) (w : World) (h : RowsAt 1 tsL w u ws) (hn : ws.length ≤ 1000) (hs : ∀ x ∈ ws, x.size ≤ 1100) : Calls Tryd.prog 29 #[u, .string ⟨#[32]⟩] w fun e w' => e = .returned (.string ⟨(Lib.join (ws.map (·.data.toList)) [32]).toArray⟩) ∧ Ext w w' := by
  obtain ⟨A, c, rfl, hc⟩ := h.form
  match ws, h, hn, hs, hc with
  | [], _, _, _, _ => exact (Tryd.strings_Join_none A c ⟨#[32]⟩ w).mono fun e w' ⟨he, hw⟩ => ⟨he, hw ▸ Ext.refl w⟩
  | y :: ys, h, hn, hs, hc =>
    obtain ⟨b, o, hB, hb, _⟩ := h.get (k := 0) (x := y) rfl
    subst hB
    refine (Tryd.strings_Join b o c (y :: ys) ⟨#[32]⟩ w (fun j x hx => ?_) hb (by omega) hc ?_).mono fun e w' ⟨he, hw⟩ => ⟨he, hw⟩
    · obtain ⟨b', o', hB', _, hc'⟩ := h.get hx
      simp only [Option.some.injEq, Addr.mk.injEq, and_true] at hB'
      obtain ⟨rfl, rfl⟩ := hB'
      have := hc' 0 _ rfl
      rwa [Nat.mul_one, Nat.add_zero] at this
    · have h1 := join_len [32] 1100 ((y :: ys).map (·.data.toList)) (fun z hz => by
        obtain ⟨x, hx, rfl⟩ := List.mem_map.1 hz
        have := hs x hx
        rw [Array.length_toList]
        exact this)
      rw [List.length_map] at h1
      simp only [List.length_cons, List.length_nil] at h1 hn
      have h2 : (ys.length + 1) * 1101 ≤ 1000 * 1101 := Nat.mul_le_mul_right _ hn
      exact Nat.le_trans h1 (by omega)
set_option maxRecDepth 100000 in
set_option maxHeartbeats 8000000 in
theorem ltext_any (v : Value) (l : List Sp) (w : World) (ht : Tab w) (h : RowsAt 5 spL w v l) (hl : l.length ≤ 1000) (hin : ∀ s ∈ l, TxIn s) (r : ByteArray) (hr : Sp.text l = r) :
    Calls Tryd.prog 15 #[v] w fun e w' => e = .returned (.string r) ∧ Ext w w' := by
  obtain ⟨A, c, rfl, -⟩ := h.form
  have H := Lib.hid h
  have HT := Lib.hid ht
  have HIN := Lib.hid hin
  have HRR := Lib.hid hr
  have hl' : (l.length : Int) ≤ 1000 := by omega
  clear h ht hin hr
  go_enter Tryd.func15, Tryd.ntmps15
  go_wp2_with fail
  go_loopw [3, 9] (fun uv iv wr => ∃ k : Nat, k ≤ l.length ∧ iv = .int .i64 k ∧ OwnRows 9 1 tsL wr w.heap.size uv ((l.take k).map Sp.word) ∧ Ext w wr) (fun _ iv _ => l.length - (intOf iv).toNat)
  case atStart => exact ⟨0, Nat.zero_le _, rfl, OwnRows.nil _ _, Ext.refl _⟩
  case round =>
    obtain ⟨k, hk, rfl, ho, hx⟩ := hrel
    have HO := Lib.hid ho
    have HX := Lib.hid hx
    clear ho hx
    by_cases hlt : k < l.length
    · obtain ⟨s, hs⟩ : ∃ s, l[k]? = some s := ⟨_, List.getElem?_eq_getElem hlt⟩
      have HTX := Lib.hid (HIN.out s (List.mem_of_getElem? hs))
      have HTK : Hid ((l.take (k + 1)).map Sp.word = (l.take k).map Sp.word ++ [s.word]) := Lib.hid (by rw [List.take_add_one, hs, List.map_append]; rfl)
      have HWS := Lib.hid (word_size HTX.out)
      obtain ⟨b, o, hB, hb, hc⟩ := (H.out.ext HX.out).get hs
      subst hB
      obtain ⟨sf, sl, ss, sn, sw⟩ := s
      have k0 := hc 0 _ rfl
      have k1 := hc 1 _ rfl
      have k2 := hc 2 _ rfl
      have k3 := hc 3 _ rfl
      have k4 := hc 4 _ rfl
      rw [Nat.add_zero] at k0
      dsimp only at k0 k1 k2 k3 k4
      have HB : Hid (i64tx sf ∧ i64tx sl ∧ i64tx ss ∧ i64tx sn) := Lib.hid ⟨HTX.out.1, HTX.out.2.1, HTX.out.2.2.1, HTX.out.2.2.2.1⟩
      have hww : sw.size ≤ 1000 := HTX.out.2.2.2.2
      clear hs hb hc
      go_upto_region 5 with fail
      obtain ⟨w3, hw3⟩ : ∃ w3, wr.alloc (.cells #[.int .i64 sf, .int .i64 sl, .int .i64 ss, .int .i64 sn, .string sw] 36) = w3 := ⟨_, rfl⟩
      have hx3 : Ext wr w3 := by rw [← hw3]; exact (Ext.refl _).alloc _
      have HQ3 : Hid (w3.heap[wr.heap.size]? = some (.cells #[.int .i64 sf, .int .i64 sl, .int .i64 ss, .int .i64 sn, .string sw] 36 (0, 0))) := Lib.hid (by rw [← hw3]; exact blk_new wr _)
      rw [hw3]
      have HX3 := Lib.hid hx3
      have HT3 := Lib.hid (HT.out.ext (HX.out.trans hx3))
      have HWD : Hid (Sp.word ⟨sf, sl, ss, sn, sw⟩ = if sw = ByteArray.empty then ity sf ++ ⟨#[45]⟩ ++ ity sl ++ ⟨#[58]⟩ ++ ity ss ++ ⟨#[58]⟩ ++ ity sn else ity sf ++ ⟨#[45]⟩ ++ ity sl ++ ⟨#[58]⟩ ++ ity ss ++ ⟨#[58]⟩ ++ ity sn ++ (⟨#[58]⟩ ++ sw)) := Lib.hid rfl
      clear hw3 hx3 k0 k1 k2 k3 k4
      obtain ⟨i1, hi1⟩ : ∃ i1, ity sf = i1 := ⟨_, rfl⟩
      obtain ⟨i2, hi2⟩ : ∃ i2, ity sl = i2 := ⟨_, rfl⟩
      obtain ⟨i3, hi3⟩ : ∃ i3, ity ss = i3 := ⟨_, rfl⟩
      obtain ⟨i4, hi4⟩ : ∃ i4, ity sn = i4 := ⟨_, rfl⟩
      have hs1 : i1.size ≤ 21 := by rw [← hi1]; exact ity_size HB.out.1.1 HB.out.1.2
      have hs2 : i2.size ≤ 21 := by rw [← hi2]; exact ity_size HB.out.2.1.1 HB.out.2.1.2
      have hs3 : i3.size ≤ 21 := by rw [← hi3]; exact ity_size HB.out.2.2.1.1 HB.out.2.2.1.2
      have hs4 : i4.size ≤ 21 := by rw [← hi4]; exact ity_size HB.out.2.2.2.1 HB.out.2.2.2.2
      rw [hi1, hi2, hi3, hi4] at HWD
      have HI1 : Hid ((⟨(Lib.itoa sf).toArray⟩ : ByteArray) = i1) := Lib.hid hi1
      have HI2 : Hid ((⟨(Lib.itoa sl).toArray⟩ : ByteArray) = i2) := Lib.hid hi2
      have HI3 : Hid ((⟨(Lib.itoa ss).toArray⟩ : ByteArray) = i3) := Lib.hid hi3
      have HI4 : Hid ((⟨(Lib.itoa sn).toArray⟩ : ByteArray) = i4) := Lib.hid hi4
      clear hi1 hi2 hi3 hi4
      have c1 : (9223372036854775807 < i1.size + 1) = False := eq_false (by omega)
      have c2 : (9223372036854775807 < i1.size + 1 + i2.size) = False := eq_false (by omega)
      have c3 : (9223372036854775807 < i1.size + 1 + i2.size + 1) = False := eq_false (by omega)
      have c4 : (9223372036854775807 < i1.size + 1 + i2.size + 1 + i3.size) = False := eq_false (by omega)
      have c5 : (9223372036854775807 < i1.size + 1 + i2.size + 1 + i3.size + 1) = False := eq_false (by omega)
      have c6 : (9223372036854775807 < i1.size + 1 + i2.size + 1 + i3.size + 1 + i4.size) = False := eq_false (by omega)
      refine region_rgx ([(2, (fun u => u = .string i1 : Value → Prop), (fun _ _ => True : (Nat → GV) → World → Prop)), (6, (fun u => u = .string i2 : Value → Prop), (fun _ _ => True : (Nat → GV) → World → Prop)), (11, (fun u => u = .string i3 : Value → Prop), (fun _ _ => True : (Nat → GV) → World → Prop)), (16, (fun u => u = .string i4 : Value → Prop), (fun _ _ => True : (Nat → GV) → World → Prop))]) (w3) (by kernel_rfl) (by kernel_rfl) ?_ ?_ ?_
      · exact List.forall_mem_cons.2 ⟨⟨⟨_, rfl⟩, fun _ _ _ _ _ => trivial, fun _ _ _ _ _ => trivial⟩, List.forall_mem_cons.2 ⟨⟨⟨_, rfl⟩, fun _ _ _ _ _ => trivial, fun _ _ _ _ _ => trivial⟩, List.forall_mem_cons.2 ⟨⟨⟨_, rfl⟩, fun _ _ _ _ _ => trivial, fun _ _ _ _ _ => trivial⟩, List.forall_mem_cons.2 ⟨⟨⟨_, rfl⟩, fun _ _ _ _ _ => trivial, fun _ _ _ _ _ => trivial⟩, List.forall_mem_nil _⟩⟩⟩⟩
      · first | assumption | exact Ext.refl _
      refine rg_pure (v := ?_) rfl (by kernel_rfl) (by kernel_rfl) (fun w hS hN => ?_) ?_
      rotate_left 1
      · clear hN
        go_simp
        try simp only [c1, c2, c3, c4, c5, c6, if_false]
        refine givesP_mk ?_
        with_reducible rfl
      refine rg_pure (v := ?_) rfl (by kernel_rfl) (by kernel_rfl) (fun w hS hN => ?_) ?_
      rotate_left 1
      · have z0 := blk_cell (hS.blk HQ3.out) 0 _ rfl
        clear hN
        go_simp
        try simp only [c1, c2, c3, c4, c5, c6, if_false]
        refine givesP_mk ?_
        with_reducible rfl
      refine rg_mem (fun u => u = .string i1 : Value → Prop) (fun _ _ => True : (Nat → GV) → World → Prop) (fun _ => Ext) rfl rfl rfl rfl (by kernel_rfl) (by kernel_rfl) (fun w hS hN R hR => ?_) ?_
      · have HR := Lib.hid hR
        clear hR
        (try clear hN)
        go_simp
        refine givesM_call ((itoa_x sf w (HT3.out.ext hS) HB.out.1.1 HB.out.1.2).mono ?_)
        rintro e w' ⟨rfl, hx⟩
        rw [HI1.out]
        exact ⟨_, rfl, HR.out _ _ rfl trivial hx⟩
      rintro u2 s2 t2 rfl
      refine rg_pure (v := ?_) rfl (by kernel_rfl) (by kernel_rfl) (fun w hS hN => ?_) ?_
      rotate_left 1
      · clear hN
        go_simp
        try simp only [c1, c2, c3, c4, c5, c6, if_false]
        refine givesP_mk ?_
        with_reducible rfl
      refine rg_pure (v := ?_) rfl (by kernel_rfl) (by kernel_rfl) (fun w hS hN => ?_) ?_
      rotate_left 1
      · clear hN
        go_simp
        try simp only [c1, c2, c3, c4, c5, c6, if_false]
        refine givesP_mk ?_
        with_reducible rfl
      refine rg_pure (v := ?_) rfl (by kernel_rfl) (by kernel_rfl) (fun w hS hN => ?_) ?_
      rotate_left 1
      · have z1 := blk_cell (hS.blk HQ3.out) 1 _ rfl
        clear hN
        go_simp
        try simp only [c1, c2, c3, c4, c5, c6, if_false]
        refine givesP_mk ?_
        with_reducible rfl
      refine rg_mem (fun u => u = .string i2 : Value → Prop) (fun _ _ => True : (Nat → GV) → World → Prop) (fun _ => Ext) rfl rfl rfl rfl (by kernel_rfl) (by kernel_rfl) (fun w hS hN R hR => ?_) ?_
      · have HR := Lib.hid hR
        clear hR
        (try clear hN)
        go_simp
        refine givesM_call ((itoa_x sl w (HT3.out.ext hS) HB.out.2.1.1 HB.out.2.1.2).mono ?_)
        rintro e w' ⟨rfl, hx⟩
        rw [HI2.out]
        exact ⟨_, rfl, HR.out _ _ rfl trivial hx⟩
      rintro u6 s6 t6 rfl
      refine rg_pure (v := ?_) rfl (by kernel_rfl) (by kernel_rfl) (fun w hS hN => ?_) ?_
      rotate_left 1
      · clear hN
        go_simp
        try simp only [c1, c2, c3, c4, c5, c6, if_false]
        refine givesP_mk ?_
        with_reducible rfl
      refine rg_pure (v := ?_) rfl (by kernel_rfl) (by kernel_rfl) (fun w hS hN => ?_) ?_
      rotate_left 1
      · clear hN
        go_simp
        try simp only [c1, c2, c3, c4, c5, c6, if_false]
        refine givesP_mk ?_
        with_reducible rfl
      refine rg_pure (v := ?_) rfl (by kernel_rfl) (by kernel_rfl) (fun w hS hN => ?_) ?_
      rotate_left 1
      · clear hN
        go_simp
        try simp only [c1, c2, c3, c4, c5, c6, if_false]
        refine givesP_mk ?_
        with_reducible rfl
      refine rg_pure (v := ?_) rfl (by kernel_rfl) (by kernel_rfl) (fun w hS hN => ?_) ?_
      rotate_left 1
      · have z2 := blk_cell (hS.blk HQ3.out) 2 _ rfl
        clear hN
        go_simp
        try simp only [c1, c2, c3, c4, c5, c6, if_false]
        refine givesP_mk ?_
        with_reducible rfl
      refine rg_mem (fun u => u = .string i3 : Value → Prop) (fun _ _ => True : (Nat → GV) → World → Prop) (fun _ => Ext) rfl rfl rfl rfl (by kernel_rfl) (by kernel_rfl) (fun w hS hN R hR => ?_) ?_
      · have HR := Lib.hid hR
        clear hR
        (try clear hN)
        go_simp
        refine givesM_call ((itoa_x ss w (HT3.out.ext hS) HB.out.2.2.1.1 HB.out.2.2.1.2).mono ?_)
        rintro e w' ⟨rfl, hx⟩
        rw [HI3.out]
        exact ⟨_, rfl, HR.out _ _ rfl trivial hx⟩
      rintro u11 s11 t11 rfl
      refine rg_pure (v := ?_) rfl (by kernel_rfl) (by kernel_rfl) (fun w hS hN => ?_) ?_
      rotate_left 1
      · clear hN
        go_simp
        try simp only [c1, c2, c3, c4, c5, c6, if_false]
        refine givesP_mk ?_
        with_reducible rfl
      refine rg_pure (v := ?_) rfl (by kernel_rfl) (by kernel_rfl) (fun w hS hN => ?_) ?_
      rotate_left 1
      · clear hN
        go_simp
        try simp only [c1, c2, c3, c4, c5, c6, if_false]
        refine givesP_mk ?_
        with_reducible rfl
      refine rg_pure (v := ?_) rfl (by kernel_rfl) (by kernel_rfl) (fun w hS hN => ?_) ?_
      rotate_left 1
      · clear hN
        go_simp
        try simp only [c1, c2, c3, c4, c5, c6, if_false]
        refine givesP_mk ?_
        with_reducible rfl
      refine rg_pure (v := ?_) rfl (by kernel_rfl) (by kernel_rfl) (fun w hS hN => ?_) ?_
      rotate_left 1
      · have z3 := blk_cell (hS.blk HQ3.out) 3 _ rfl
        clear hN
        go_simp
        try simp only [c1, c2, c3, c4, c5, c6, if_false]
        refine givesP_mk ?_
        with_reducible rfl
      refine rg_mem (fun u => u = .string i4 : Value → Prop) (fun _ _ => True : (Nat → GV) → World → Prop) (fun _ => Ext) rfl rfl rfl rfl (by kernel_rfl) (by kernel_rfl) (fun w hS hN R hR => ?_) ?_
      · have HR := Lib.hid hR
        clear hR
        (try clear hN)
        go_simp
        refine givesM_call ((itoa_x sn w (HT3.out.ext hS) HB.out.2.2.2.1 HB.out.2.2.2.2).mono ?_)
        rintro e w' ⟨rfl, hx⟩
        rw [HI4.out]
        exact ⟨_, rfl, HR.out _ _ rfl trivial hx⟩
      rintro u16 s16 t16 rfl
      refine rg_pure (v := ?_) rfl (by kernel_rfl) (by kernel_rfl) (fun w hS hN => ?_) ?_
      rotate_left 1
      · clear hN
        go_simp
        try simp only [c1, c2, c3, c4, c5, c6, if_false]
        refine givesP_mk ?_
        with_reducible rfl
      refine rg_pure (v := ?_) rfl (by kernel_rfl) (by kernel_rfl) (fun w hS hN => ?_) ?_
      rotate_left 1
      · clear hN
        go_simp
        try simp only [c1, c2, c3, c4, c5, c6, if_false]
        refine givesP_mk ?_
        with_reducible rfl
      refine rg_done rfl (Nat.le_of_ble_eq_true (by kernel_rfl)) ?_
      intro w8 hS hT
      have HX8 := Lib.hid (HX.out.trans (HX3.out.trans hS))
      have HO8 := Lib.hid (HO.out.ext (HX3.out.trans hS))
      have z4 := blk_cell (hS.blk HQ3.out) 4 _ rfl
      clear hS hT
      go_simp
      by_cases he : sw = ByteArray.empty
      · subst he
        rw [if_pos rfl] at HWD
        obtain ⟨un, wn, hr1, ho1, hx1⟩ := ts_push (W := w) HO8.out HX8.out (i1 ++ ⟨#[45]⟩ ++ i2 ++ ⟨#[58]⟩ ++ i3 ++ ⟨#[58]⟩ ++ i4) (by rw [List.length_map, List.length_take]; omega)
        have HR1 := Lib.hid hr1
        have HO1 := Lib.hid ho1
        have HXN := Lib.hid hx1
        clear hr1 ho1 hx1
        go_upto_region 8 with fail
        go_wp2_with (at_builtin; refine wpList_append_run rfl _ _ 62 rfl _ _ rfl rfl HR1.out ?_)
        go_roundw
        case rel => exact ⟨k + 1, by omega, by go_num, by rw [HTK.out, HWD.out]; exact HO1.out, HXN.out⟩
        case measure => simp [intOf]; omega
      · rw [if_neg he] at HWD
        obtain ⟨un, wn, hr1, ho1, hx1⟩ := ts_push (W := w) HO8.out HX8.out (i1 ++ ⟨#[45]⟩ ++ i2 ++ ⟨#[58]⟩ ++ i3 ++ ⟨#[58]⟩ ++ i4 ++ (⟨#[58]⟩ ++ sw)) (by rw [List.length_map, List.length_take]; omega)
        obtain ⟨e2, e3⟩ := ln_bytes_list (s := sw) he
        have HR1 := Lib.hid hr1
        have HO1 := Lib.hid ho1
        have HXN := Lib.hid hx1
        clear hr1 ho1 hx1
        go_upto_region 8 with fail
        go_wp2_with (at_builtin; refine wpList_append_run rfl _ _ 62 rfl _ _ rfl rfl HR1.out ?_)
        go_roundw
        case rel => exact ⟨k + 1, by omega, by go_num, by rw [HTK.out, HWD.out]; exact HO1.out, HXN.out⟩
        case measure => simp [intOf]; omega
    · obtain rfl : k = l.length := by omega
      have HW9 : Hid (RowsAt 1 tsL wr u3 (l.map Sp.word)) := Lib.hid (by have := HO.out.rows tsL_len; rwa [List.take_length] at this)
      go_wp2_with fail
      refine (join_any u3 (l.map Sp.word) wr HW9.out (by rw [List.length_map]; omega) (fun x hx => ?_)).mono ?_
      · obtain ⟨s, hs, rfl⟩ := List.mem_map.1 hx
        exact word_size (HIN.out s hs)
      rintro e w9 ⟨rfl, hx9⟩
      have HX9 := Lib.hid (HX.out.trans hx9)
      have HRE : Hid ((⟨(Lib.join ((l.map Sp.word).map (·.data.toList)) [32]).toArray⟩ : ByteArray) = r) := Lib.hid (by rw [← HRR.out, List.map_map]; rfl)
      clear hx9
      rw [HRE.out]
      go_wp2
      go_ret
      exact ⟨rfl, HX9.out⟩
set_option maxRecDepth 100000 in
set_option maxHeartbeats 8000000 in
theorem lnone_any (w : World) : Calls Tryd.prog 17 #[] w fun e w' => ∃ u, e = .returned u ∧ SnAt w' u lnOne ∧ Ext w w' := by
  obtain ⟨w1, hw1⟩ : ∃ w1, w.alloc (.cells #[.int .i64 0, .slice none 0 0, .slice none 0 0] 25) = w1 := ⟨_, rfl⟩
  obtain ⟨w2, hw2⟩ : ∃ w2, w1.alloc (.cells #[.int .i64 2, .int .i64 0] 61) = w2 := ⟨_, rfl⟩
  obtain ⟨w3, hw3⟩ : ∃ w3, w2.alloc (.cells #[.int .i64 3, .int .i64 2, .int .i64 2, .int .i64 0] 49) = w3 := ⟨_, rfl⟩
  have hx1 : Ext w w1 := by rw [← hw1]; exact (Ext.refl w).alloc _
  have hx2 : Ext w1 w2 := by rw [← hw2]; exact (Ext.refl w1).alloc _
  have hx3 : Ext w2 w3 := by rw [← hw3]; exact (Ext.refl w2).alloc _
  have hb1 : w3.heap[w.heap.size]? = some (.cells #[.int .i64 0, .slice none 0 0, .slice none 0 0] 25 (0, 0)) := hx3.blk (hx2.blk (by rw [← hw1]; exact blk_new w _))
  have hr2 : RowsAt 2 snPCells w3 (.slice (some ⟨w1.heap.size, 0, none⟩) 1 1) [(2, 0)] := (by have := rows_one (f := snPCells) (m := 2) w1 61 (2, 0); rw [show (snPCells (2, 0)).toArray = #[.int .i64 2, .int .i64 0] from rfl, hw2] at this; exact this.ext hx3)
  have hr3 : RowsAt 4 snGCells w3 (.slice (some ⟨w2.heap.size, 0, none⟩) 1 1) [(3, 2, 2, 0)] := (by have := rows_one (f := snGCells) (m := 4) w2 49 (3, 2, 2, 0); rw [show (snGCells (3, 2, 2, 0)).toArray = #[.int .i64 3, .int .i64 2, .int .i64 2, .int .i64 0] from rfl, hw3] at this; exact this)
  obtain ⟨hth, w6, hw6, hb6, hret⟩ := sn_lay (y := lnOne) (A := some ⟨w1.heap.size, 0, none⟩) (B := some ⟨w2.heap.size, 0, none⟩) (c := 1) (d := 1) (time := 3) (hx1.trans (hx2.trans hx3)) (Nat.le_refl _) hb1 ⟨_, _, _, _, rfl, hr2, hr3⟩
  simp only [lnOne, List.length_cons, List.length_nil, Nat.zero_add, Nat.reduceAdd] at hth hw6 hb6 hret
  have HW1 := Lib.hid hw1
  have HW2 := Lib.hid hw2
  have HW3 := Lib.hid hw3
  have HTH := Lib.hid hth
  have HW6 := Lib.hid hw6
  have HB6 := Lib.hid hb6
  have HRET := Lib.hid hret
  clear hw1 hw2 hw3 hx1 hx2 hx3 hb1 hr2 hr3 hth hw6 hb6 hret
  go_enter Tryd.func17, Tryd.ntmps17
  go_wp2_with (first | rw [HW1.out] | rw [HW2.out] | rw [HW3.out] | (refine wpList_store_rowN rfl 25 _ _ rfl w.heap.size 0 [.int .i64 3, .slice (some ⟨w1.heap.size, 0, none⟩) 1 1, .slice (some ⟨w2.heap.size, 0, none⟩) 1 1] (.agg ([.int .i64 3, .slice (some ⟨w1.heap.size, 0, none⟩) 1 1, .slice (some ⟨w2.heap.size, 0, none⟩) 1 1]).toArray) (by go_simp) (by go_simp) rfl HTH.out (by kernel_rfl) (sn3_one _ _ _ rfl rfl) HW6.out ?_))
  refine bodyPost_ret (v := .agg ([.int .i64 3, .slice (some ⟨w1.heap.size, 0, none⟩) 1 1, .slice (some ⟨w2.heap.size, 0, none⟩) 1 1]).toArray) (results_cell_row rfl _ _ w.heap.size _ _ _ _ rfl HB6.out Tryd.underlying25 rfl (by kernel_rfl)) rfl ?_
  exact HRET.out
theorem ln_logs_at {w : World} {B : Nat} (hb : w.heap[B]? = some (.cells #[.int .i64 5, .int .i64 2, .int .i64 6, .int .i64 3, .int .i64 0, .int .i64 0, .string ⟨#[115, 108, 101, 101, 112]⟩, .slice none 0 0, .int .i64 8, .int .i64 2, .int .i64 2, .int .i64 0, .int .i64 1, .int .i64 0, .string ⟨#[]⟩, .slice none 0 0] 34 (0, 0))) : RowsAt 8 leL w (.slice (some ⟨B, 0, none⟩) 2 2) lnLogs ∧ RowsAt 8 leL w (.slice (some ⟨B, 8, none⟩) 1 1) (lnLogs.drop 1) := by
  refine ⟨⟨_, _, rfl, Nat.le_refl 2, fun _ => ⟨B, 0, rfl, blk_lt hb, fun j x hj i u hu => ?_⟩⟩, ⟨_, _, rfl, Nat.le_refl 1, fun _ => ⟨B, 8, rfl, blk_lt hb, fun j x hj i u hu => ?_⟩⟩⟩
  · match j, i with
    | 0, 0 | 0, 1 | 0, 2 | 0, 3 | 0, 4 | 0, 5 | 0, 6 | 0, 7 | 1, 0 | 1, 1 | 1, 2 | 1, 3 | 1, 4 | 1, 5 | 1, 6 | 1, 7 => simp [lnLogs] at hj; subst hj; simp [leL] at hu; subst hu; exact blk_cell hb _ _ rfl
    | 0, i + 8 | 1, i + 8 => simp [lnLogs] at hj; subst hj; simp [leL] at hu
    | j + 2, _ => simp [lnLogs] at hj
  · match j, i with
    | 0, 0 | 0, 1 | 0, 2 | 0, 3 | 0, 4 | 0, 5 | 0, 6 | 0, 7 => simp [lnLogs] at hj; subst hj; simp [leL] at hu; subst hu; exact blk_cell hb _ _ rfl
    | 0, i + 8 => simp [lnLogs] at hj; subst hj; simp [leL] at hu
    | j + 1, _ => simp [lnLogs] at hj
theorem ln_logs_st : ∀ e ∈ lnLogs, ∃ A n c, e.stack = .slice A n c := by intro e he; simp [lnLogs] at he; rcases he with rfl | rfl <;> exact ⟨_, _, _, rfl⟩
theorem ln_txin : (∀ s ∈ lnG, TxIn s) ∧ ∀ s ∈ lnP, TxIn s := by
  refine ⟨fun s hs => ?_, fun s hs => ?_⟩
  · simp [lnG] at hs; rcases hs with rfl | rfl <;> exact ⟨by unfold i64tx; decide, by unfold i64tx; decide, by unfold i64tx; decide, by unfold i64tx; decide, by decide⟩
  · simp [lnP] at hs; rcases hs with rfl | rfl <;> exact ⟨by unfold i64tx; decide, by unfold i64tx; decide, by unfold i64tx; decide, by unfold i64tx; decide, by decide⟩
set_option maxRecDepth 100000 in
set_option maxHeartbeats 16000000 in
theorem lnfixed_yes (w : World) (ht : Tab w) : Calls Tryd.prog 7 #[] w fun e w' => e = .returned (.bool true) ∧ Ext w w' := by
  obtain ⟨w1, hw1⟩ : ∃ w1, w.alloc (.cells #[.int .i64 5, .int .i64 2, .int .i64 6, .int .i64 3, .int .i64 0, .int .i64 0, .string ⟨#[115, 108, 101, 101, 112]⟩, .slice none 0 0, .int .i64 8, .int .i64 2, .int .i64 2, .int .i64 0, .int .i64 1, .int .i64 0, .string ⟨#[]⟩, .slice none 0 0] 34) = w1 := ⟨_, rfl⟩
  have hx1 : Ext w w1 := by rw [← hw1]; exact (Ext.refl w).alloc _
  have hb1 : w1.heap[w.heap.size]? = some (.cells #[.int .i64 5, .int .i64 2, .int .i64 6, .int .i64 3, .int .i64 0, .int .i64 0, .string ⟨#[115, 108, 101, 101, 112]⟩, .slice none 0 0, .int .i64 8, .int .i64 2, .int .i64 2, .int .i64 0, .int .i64 1, .int .i64 0, .string ⟨#[]⟩, .slice none 0 0] 34 (0, 0)) := by rw [← hw1]; exact blk_new w _
  obtain ⟨hla, hlb⟩ := ln_logs_at hb1
  obtain ⟨B, hB⟩ : ∃ B, w.heap.size = B := ⟨_, rfl⟩
  rw [hB] at hla hlb
  have HBB := Lib.hid hB
  have HW1 := Lib.hid hw1
  have HX1 := Lib.hid hx1
  have HLA := Lib.hid hla
  have HLB := Lib.hid hlb
  have HT := Lib.hid (ht.ext hx1)
  clear hw1 hx1 hb1 hla hlb hB ht
  go_enter Tryd.func7, Tryd.ntmps7
  go_upto_region 2 with fail
  rw [HW1.out, HBB.out]
  go_wp2_with fail
  refine (lnone_any w1).mono ?_
  rintro e w2 ⟨u, rfl, hs, hx2⟩
  have HS2 := Lib.hid hs
  have X2 := Lib.hid hx2
  clear hs hx2
  go_wp2_with fail
  refine (lnG_any u _ lnOne lnLogs 3 w2 HS2.out (HLA.out.ext X2.out) (by decide) ln_logs_st lnG ln_g).mono ?_
  rintro e w3 ⟨u3, rfl, hr3, hx3⟩
  obtain ⟨A3, c3, rfl, -⟩ := hr3.form
  have HR3 := Lib.hid hr3
  have X3 := Lib.hid (X2.out.trans hx3)
  clear hr3 hx3 HS2
  go_wp2_with fail
  refine (lnone_any w3).mono ?_
  rintro e w4 ⟨u4, rfl, hs, hx4⟩
  have HS4 := Lib.hid hs
  have X4 := Lib.hid (X3.out.trans hx4)
  have HR4 := Lib.hid (HR3.out.ext hx4)
  clear hs hx4
  go_wp2_with fail
  refine (lnP_any u4 _ lnOne lnLogs 1 w4 HS4.out (HLA.out.ext X4.out) (by decide) ln_logs_st lnP ln_p).mono ?_
  rintro e w5 ⟨u5, rfl, hr5, hx5⟩
  obtain ⟨A5, c5, rfl, -⟩ := hr5.form
  have HP5 := Lib.hid hr5
  have X5 := Lib.hid (X4.out.trans hx5)
  have HG5 := Lib.hid (HR4.out.ext hx5)
  have HT5 := Lib.hid (HT.out.ext X5.out)
  have HLA5 := Lib.hid (HLA.out.ext X5.out)
  have HLB5 := Lib.hid (HLB.out.ext X5.out)
  clear hr5 hx5 HS4 HR3 HR4
  go_wp2_with fail
  refine region_rgx ([(1, (fun u => u = .string ⟨#[51, 45, 53, 58, 50, 58, 50, 32, 53, 45, 56, 58, 51, 58, 48, 58, 115, 108, 101, 101, 112]⟩ : Value → Prop), (fun _ _ => True : (Nat → GV) → World → Prop)), (5, (fun u => u = .string ⟨#[51, 45, 56, 58, 49, 58, 50, 32, 56, 45, 56, 58, 48, 58, 48]⟩ : Value → Prop), (fun _ _ => True : (Nat → GV) → World → Prop)), (10, (fun u => u = .int .i64 2 : Value → Prop), (fun _ _ => True : (Nat → GV) → World → Prop)), (14, (fun u => ∃ A c D d, u = .agg #[.int .i64 3, .slice A 1 c, .slice D 1 d] : Value → Prop), (fun u w => SnAt w (u 14).v lnOne : (Nat → GV) → World → Prop)), (17, (fun u => ∃ A c, u = .slice A 0 c : Value → Prop), (fun _ _ => True : (Nat → GV) → World → Prop)), (22, (fun u => ∃ A c D d, u = .agg #[.int .i64 3, .slice A 1 c, .slice D 1 d] : Value → Prop), (fun u w => SnAt w (u 22).v lnOne : (Nat → GV) → World → Prop)), (24, (fun u => ∃ A c, u = .slice A 0 c : Value → Prop), (fun _ _ => True : (Nat → GV) → World → Prop)), (30, (fun u => ∃ g, u = .slice (some ⟨g, 0, none⟩) 1 1 : Value → Prop), (fun u w => RowsAt 5 spL w (u 30).v [⟨5, 3, 0, 0, ByteArray.empty⟩] : (Nat → GV) → World → Prop)), (31, (fun u => u = .int .i64 0 : Value → Prop), (fun _ _ => True : (Nat → GV) → World → Prop))]) (w5) (by kernel_rfl) (by kernel_rfl) ?_ ?_ ?_
  · exact List.forall_mem_cons.2 ⟨⟨⟨_, rfl⟩, fun _ _ _ _ _ => trivial, fun _ _ _ _ _ => trivial⟩, List.forall_mem_cons.2 ⟨⟨⟨_, rfl⟩, fun _ _ _ _ _ => trivial, fun _ _ _ _ _ => trivial⟩, List.forall_mem_cons.2 ⟨⟨⟨_, rfl⟩, fun _ _ _ _ _ => trivial, fun _ _ _ _ _ => trivial⟩, List.forall_mem_cons.2 ⟨⟨⟨_, none, 0, none, 0, rfl⟩, fun u v w h ht => by show (fun u w => SnAt w (u 14).v lnOne : (Nat → GV) → World → Prop) v w; dsimp only; rw [← h 14 (.inl rfl) (by kernel_rfl)]; exact ht, fun u w w2 hx ht => ht.ext hx⟩, List.forall_mem_cons.2 ⟨⟨⟨_, none, 0, rfl⟩, fun _ _ _ _ _ => trivial, fun _ _ _ _ _ => trivial⟩, List.forall_mem_cons.2 ⟨⟨⟨_, none, 0, none, 0, rfl⟩, fun u v w h ht => by show (fun u w => SnAt w (u 22).v lnOne : (Nat → GV) → World → Prop) v w; dsimp only; rw [← h 22 (.inl rfl) (by kernel_rfl)]; exact ht, fun u w w2 hx ht => ht.ext hx⟩, List.forall_mem_cons.2 ⟨⟨⟨_, none, 0, rfl⟩, fun _ _ _ _ _ => trivial, fun _ _ _ _ _ => trivial⟩, List.forall_mem_cons.2 ⟨⟨⟨_, 0, rfl⟩, fun u v w h ht => by show (fun u w => RowsAt 5 spL w (u 30).v [⟨5, 3, 0, 0, ByteArray.empty⟩] : (Nat → GV) → World → Prop) v w; dsimp only; rw [← h 30 (.inl rfl) (by kernel_rfl)]; exact ht, fun u w w2 hx ht => ht.ext hx⟩, List.forall_mem_cons.2 ⟨⟨⟨_, rfl⟩, fun _ _ _ _ _ => trivial, fun _ _ _ _ _ => trivial⟩, List.forall_mem_nil _⟩⟩⟩⟩⟩⟩⟩⟩⟩
  · first | assumption | exact Ext.refl _
  refine rg_pure (v := ?_) rfl (by kernel_rfl) (by kernel_rfl) (fun w hS hN => ?_) ?_
  rotate_left 1
  · clear hN
    go_simp
    refine givesP_mk ?_
    with_reducible rfl
  refine rg_mem (fun u => u = .string ⟨#[51, 45, 53, 58, 50, 58, 50, 32, 53, 45, 56, 58, 51, 58, 48, 58, 115, 108, 101, 101, 112]⟩ : Value → Prop) (fun _ _ => True : (Nat → GV) → World → Prop) (fun _ => Ext) rfl rfl rfl rfl (by kernel_rfl) (by kernel_rfl) (fun w hS hN R hR => ?_) ?_
  · have HR := Lib.hid hR
    clear hR
    (try clear hN)
    go_simp
    refine givesM_call ((ltext_any _ lnG w (HT5.out.ext hS) (HG5.out.ext hS) (by decide) ln_txin.1 _ ln_tg).mono ?_)
    rintro e w' ⟨rfl, hx⟩
    exact ⟨_, rfl, HR.out _ _ rfl trivial hx⟩
  rintro u1 s1 t1 rfl
  refine rg_pure (v := ?_) rfl (by kernel_rfl) (by kernel_rfl) (fun w hS hN => ?_) ?_
  rotate_left 1
  · clear hN
    go_simp
    refine givesP_mk ?_
    with_reducible rfl
  refine rg_pure (v := ?_) rfl (by kernel_rfl) (by kernel_rfl) (fun w hS hN => ?_) ?_
  rotate_left 1
  · clear hN
    go_simp
    refine givesP_mk ?_
    with_reducible rfl
  refine rg_pure (v := ?_) rfl (by kernel_rfl) (by kernel_rfl) (fun w hS hN => ?_) ?_
  rotate_left 1
  · clear hN
    go_simp
    refine givesP_mk ?_
    with_reducible rfl
  refine rg_mem (fun u => u = .string ⟨#[51, 45, 56, 58, 49, 58, 50, 32, 56, 45, 56, 58, 48, 58, 48]⟩ : Value → Prop) (fun _ _ => True : (Nat → GV) → World → Prop) (fun _ => Ext) rfl rfl rfl rfl (by kernel_rfl) (by kernel_rfl) (fun w hS hN R hR => ?_) ?_
  · have HR := Lib.hid hR
    clear hR
    (try clear hN)
    go_simp
    refine givesM_call ((ltext_any _ lnP w (HT5.out.ext hS) (HP5.out.ext hS) (by decide) ln_txin.2 _ ln_tp).mono ?_)
    rintro e w' ⟨rfl, hx⟩
    exact ⟨_, rfl, HR.out _ _ rfl trivial hx⟩
  rintro u5 s5 t5 rfl
  refine rg_pure (v := ?_) rfl (by kernel_rfl) (by kernel_rfl) (fun w hS hN => ?_) ?_
  rotate_left 1
  · clear hN
    go_simp
    refine givesP_mk ?_
    with_reducible rfl
  refine rg_pure (v := ?_) rfl (by kernel_rfl) (by kernel_rfl) (fun w hS hN => ?_) ?_
  rotate_left 1
  · clear hN
    go_simp
    refine givesP_mk ?_
    with_reducible rfl
  refine rg_pure (v := ?_) rfl (by kernel_rfl) (by kernel_rfl) (fun w hS hN => ?_) ?_
  rotate_left 1
  · clear hN
    go_simp
    refine givesP_mk ?_
    with_reducible rfl
  refine rg_pure (v := ?_) rfl (by kernel_rfl) (by kernel_rfl) (fun w hS hN => ?_) ?_
  rotate_left 1
  · clear hN
    go_simp
    refine givesP_mk ?_
    with_reducible rfl
  refine rg_mem (fun u => u = .int .i64 2 : Value → Prop) (fun _ _ => True : (Nat → GV) → World → Prop) (fun _ => Ext) rfl rfl rfl rfl (by kernel_rfl) (by kernel_rfl) (fun w hS hN R hR => ?_) ?_
  · have HR := Lib.hid hR
    clear hR
    (try clear hN)
    go_simp
    refine givesM_call ((lsum_any _ lnG 2 w (HG5.out.ext hS) (by decide) (fun s hs => (ln_txin.1 s hs).2.1.2) _ ln_sum).mono ?_)
    rintro e w' ⟨rfl, hx⟩
    exact ⟨_, rfl, HR.out _ _ rfl trivial hx⟩
  rintro u10 s10 t10 rfl
  refine rg_pure (v := ?_) rfl (by kernel_rfl) (by kernel_rfl) (fun w hS hN => ?_) ?_
  rotate_left 1
  · clear hN
    go_simp
    refine givesP_mk ?_
    with_reducible rfl
  refine rg_pure (v := ?_) rfl (by kernel_rfl) (by kernel_rfl) (fun w hS hN => ?_) ?_
  rotate_left 1
  · clear hN
    go_simp
    refine givesP_mk ?_
    with_reducible rfl
  refine rg_pure (v := ?_) rfl (by kernel_rfl) (by kernel_rfl) (fun w hS hN => ?_) ?_
  rotate_left 1
  · clear hN
    go_simp
    refine givesP_mk ?_
    with_reducible rfl
  refine rg_mem (fun u => ∃ A c D d, u = .agg #[.int .i64 3, .slice A 1 c, .slice D 1 d] : Value → Prop) (fun u w => SnAt w (u 14).v lnOne : (Nat → GV) → World → Prop) (fun _ => Ext) rfl rfl rfl rfl (by kernel_rfl) (by kernel_rfl) (fun w hS hN R hR => ?_) ?_
  · have HR := Lib.hid hR
    clear hR
    (try clear hN)
    go_simp
    refine givesM_call ((lnone_any w).mono ?_)
    rintro e w' ⟨v, rfl, hs, hx⟩
    obtain ⟨A', c', D', d', rfl, h2, h3⟩ := hs
    exact ⟨_, rfl, HR.out _ _ ⟨_, _, _, _, rfl⟩ ⟨_, _, _, _, rfl, h2, h3⟩ hx⟩
  rintro u14 s14 t14 ⟨A14, c14, D14, d14, rfl⟩
  refine rg_pure (v := ?_) rfl (by kernel_rfl) (by kernel_rfl) (fun w hS hN => ?_) ?_
  rotate_left 1
  · clear hN
    go_simp
    refine givesP_mk ?_
    with_reducible rfl
  refine rg_pure (v := ?_) rfl (by kernel_rfl) (by kernel_rfl) (fun w hS hN => ?_) ?_
  rotate_left 1
  · clear hN
    go_simp
    refine givesP_mk ?_
    with_reducible rfl
  refine rg_mem (fun u => ∃ A c, u = .slice A 0 c : Value → Prop) (fun _ _ => True : (Nat → GV) → World → Prop) (fun _ => Ext) rfl rfl rfl rfl (by kernel_rfl) (by kernel_rfl) (fun w hS hN R hR => ?_) ?_
  · have HR := Lib.hid hR
    clear hR
    have h14 : SnAt w (.agg #[.int .i64 3, .slice A14 1 c14, .slice D14 1 d14]) lnOne := hN.get 14 rfl (by kernel_rfl)
    have HCC := Lib.hid (lnG_any _ _ lnOne (lnLogs.drop 1) 3 w h14 (HLB5.out.ext hS) (by decide) (fun e he => ln_logs_st e (List.mem_of_mem_drop he)) [] ln_g1)
    clear h14
    (try clear hN)
    go_simp
    refine givesM_call (HCC.out.mono ?_)
    rintro e w' ⟨v, rfl, hr, hx⟩
    obtain ⟨A', c', rfl, -⟩ := hr.form
    exact ⟨_, rfl, HR.out _ _ ⟨_, _, rfl⟩ trivial hx⟩
  rintro u17 s17 t17 ⟨A17, c17, rfl⟩
  refine rg_pure (v := ?_) rfl (by kernel_rfl) (by kernel_rfl) (fun w hS hN => ?_) ?_
  rotate_left 1
  · clear hN
    go_simp
    refine givesP_mk ?_
    with_reducible rfl
  refine rg_pure (v := ?_) rfl (by kernel_rfl) (by kernel_rfl) (fun w hS hN => ?_) ?_
  rotate_left 1
  · clear hN
    go_simp
    refine givesP_mk ?_
    with_reducible rfl
  refine rg_pure (v := ?_) rfl (by kernel_rfl) (by kernel_rfl) (fun w hS hN => ?_) ?_
  rotate_left 1
  · clear hN
    go_simp
    refine givesP_mk ?_
    with_reducible rfl
  refine rg_pure (v := ?_) rfl (by kernel_rfl) (by kernel_rfl) (fun w hS hN => ?_) ?_
  rotate_left 1
  · clear hN
    go_simp
    refine givesP_mk ?_
    with_reducible rfl
  refine rg_mem (fun u => ∃ A c D d, u = .agg #[.int .i64 3, .slice A 1 c, .slice D 1 d] : Value → Prop) (fun u w => SnAt w (u 22).v lnOne : (Nat → GV) → World → Prop) (fun _ => Ext) rfl rfl rfl rfl (by kernel_rfl) (by kernel_rfl) (fun w hS hN R hR => ?_) ?_
  · have HR := Lib.hid hR
    clear hR
    (try clear hN)
    go_simp
    refine givesM_call ((lnone_any w).mono ?_)
    rintro e w' ⟨v, rfl, hs, hx⟩
    obtain ⟨A', c', D', d', rfl, h2, h3⟩ := hs
    exact ⟨_, rfl, HR.out _ _ ⟨_, _, _, _, rfl⟩ ⟨_, _, _, _, rfl, h2, h3⟩ hx⟩
  rintro u22 s22 t22 ⟨A22, c22, D22, d22, rfl⟩
  refine rg_pure (v := ?_) rfl (by kernel_rfl) (by kernel_rfl) (fun w hS hN => ?_) ?_
  rotate_left 1
  · clear hN
    go_simp
    refine givesP_mk ?_
    with_reducible rfl
  refine rg_mem (fun u => ∃ A c, u = .slice A 0 c : Value → Prop) (fun _ _ => True : (Nat → GV) → World → Prop) (fun _ => Ext) rfl rfl rfl rfl (by kernel_rfl) (by kernel_rfl) (fun w hS hN R hR => ?_) ?_
  · have HR := Lib.hid hR
    clear hR
    have h22 : SnAt w (.agg #[.int .i64 3, .slice A22 1 c22, .slice D22 1 d22]) lnOne := hN.get 22 rfl (by kernel_rfl)
    have HCC := Lib.hid (lnP_any _ _ lnOne lnLogs 2 w h22 (HLA5.out.ext hS) (by decide) ln_logs_st [] ln_p2)
    clear h22
    (try clear hN)
    go_simp
    refine givesM_call (HCC.out.mono ?_)
    rintro e w' ⟨v, rfl, hr, hx⟩
    obtain ⟨A', c', rfl, -⟩ := hr.form
    exact ⟨_, rfl, HR.out _ _ ⟨_, _, rfl⟩ trivial hx⟩
  rintro u24 s24 t24 ⟨A24, c24, rfl⟩
  refine rg_pure (v := ?_) rfl (by kernel_rfl) (by kernel_rfl) (fun w hS hN => ?_) ?_
  rotate_left 1
  · clear hN
    go_simp
    refine givesP_mk ?_
    with_reducible rfl
  refine rg_pure (v := ?_) rfl (by kernel_rfl) (by kernel_rfl) (fun w hS hN => ?_) ?_
  rotate_left 1
  · clear hN
    go_simp
    refine givesP_mk ?_
    with_reducible rfl
  refine rg_pure (v := ?_) rfl (by kernel_rfl) (by kernel_rfl) (fun w hS hN => ?_) ?_
  rotate_left 1
  · clear hN
    go_simp
    refine givesP_mk ?_
    with_reducible rfl
  refine rg_pure (v := ?_) rfl (by kernel_rfl) (by kernel_rfl) (fun w hS hN => ?_) ?_
  rotate_left 1
  · clear hN
    go_simp
    refine givesP_mk ?_
    with_reducible rfl
  refine rg_pure (v := ?_) rfl (by kernel_rfl) (by kernel_rfl) (fun w hS hN => ?_) ?_
  rotate_left 1
  · clear hN
    go_simp
    refine givesP_mk ?_
    with_reducible rfl
  refine rg_mem (fun u => ∃ g, u = .slice (some ⟨g, 0, none⟩) 1 1 : Value → Prop) (fun u w => RowsAt 5 spL w (u 30).v [⟨5, 3, 0, 0, ByteArray.empty⟩] : (Nat → GV) → World → Prop) (fun _ => Ext) rfl rfl rfl rfl (by kernel_rfl) (by kernel_rfl) (fun w hS hN R hR => ?_) ?_
  · have HR := Lib.hid hR
    clear hR
    (try clear hN)
    go_simp
    exact givesM_val (HR.out _ _ ⟨_, rfl⟩ (rows_one w 36 (⟨5, 3, 0, 0, ByteArray.empty⟩ : Sp)) ((Ext.refl w).alloc _))
  rintro u30 s30 t30 ⟨g30, rfl⟩
  refine rg_mem (fun u => u = .int .i64 0 : Value → Prop) (fun _ _ => True : (Nat → GV) → World → Prop) (fun _ => Ext) rfl rfl rfl rfl (by kernel_rfl) (by kernel_rfl) (fun w hS hN R hR => ?_) ?_
  · have HR := Lib.hid hR
    clear hR
    have h30 : RowsAt 5 spL w (.slice (some ⟨g30, 0, none⟩) 1 1) [⟨5, 3, 0, 0, ByteArray.empty⟩] := hN.get 30 rfl (by kernel_rfl)
    have HCC := Lib.hid (lsum_any _ _ 0 w h30 (by decide) (fun s hs => by simp at hs; subst hs; decide) _ ln_sum0)
    clear h30
    (try clear hN)
    go_simp
    refine givesM_call (HCC.out.mono ?_)
    rintro e w' ⟨rfl, hx⟩
    exact ⟨_, rfl, HR.out _ _ rfl trivial hx⟩
  rintro u31 s31 t31 rfl
  refine rg_pure (v := ?_) rfl (by kernel_rfl) (by kernel_rfl) (fun w hS hN => ?_) ?_
  rotate_left 1
  · clear hN
    go_simp
    refine givesP_mk ?_
    with_reducible rfl
  refine rg_pure (v := ?_) rfl (by kernel_rfl) (by kernel_rfl) (fun w hS hN => ?_) ?_
  rotate_left 1
  · clear hN
    go_simp
    refine givesP_mk ?_
    with_reducible rfl
  refine rg_pure (v := ?_) rfl (by kernel_rfl) (by kernel_rfl) (fun w hS hN => ?_) ?_
  rotate_left 1
  · clear hN
    go_simp
    refine givesP_mk ?_
    with_reducible rfl
  refine rg_done rfl (Nat.le_of_ble_eq_true (by kernel_rfl)) ?_
  intro w8 hS hT
  have HX8 := Lib.hid (HX1.out.trans (X5.out.trans hS))
  clear hT hS
  go_simp
  go_wp2
  go_ret
  exact ⟨rfl, HX8.out⟩
open Go.ChangeShapes Go.WideShapes Go.Deep Go.RowKit
section
variable {H : Type} {enc : TypeId × Value → H} {P : Program} {w : World} {base : Nat} {spare : Nat → Bool} {held : Bool}
end
open Go.ChangeShapes Go.WideShapes Go.Deep Go.RowKit
def RecsAt {α : Type} (m : Nat) (R : World → List Value → α → Prop) (w : World) (v : Value) (xs : List α) : Prop :=
  ∃ A c, v = .slice A xs.length c ∧ xs.length ≤ c ∧ (0 < xs.length → ∃ b o, A = some ⟨b, o, none⟩ ∧ b < w.heap.size ∧ ∀ j x, xs[j]? = some x → ∃ cs : List Value, cs.length = m ∧ R w cs x ∧ ∀ i u, cs[i]? = some u → w.cell? ⟨b, o + j * m + i, none⟩ = some u)
theorem RecsAt.rows {α : Type} {m : Nat} {f : α → List Value} {w : World} {v : Value} {xs : List α} (h : RecsAt m (fun _ cs x => cs = f x) w v xs) : RowsAt m f w v xs := by
  obtain ⟨A, c, rfl, hc, hA⟩ := h
  refine ⟨A, c, rfl, hc, fun h0 => ?_⟩
  obtain ⟨b, o, hb, hlt, hk⟩ := hA h0
  refine ⟨b, o, hb, hlt, fun j x hj i u hu => ?_⟩
  obtain ⟨cs, _, rfl, h3⟩ := hk j x hj
  exact h3 i u hu
section
variable {H : Type} {enc : TypeId × Value → H} {P : Program} {w : World} {base : Nat} {held : Bool}
theorem open_recs {α : Type} {R : World → List Value → α → Prop} {G : α → Prop} {m : Nat} (x0 : α) {t e : TypeId} {fuel len cap : Nat} {A : Option Addr} {x : DataW H × List MemPlace} (ht : P.underlying t = some (.slice e)) (hC : P.cellsOf e = m) (hm0 : 0 < m)
    (elem : ∀ (n : Nat) (cs : List Value) (y : DataW H × List MemPlace), DataW.trod enc P w base (fun _ => true) held n e cs = some y → ∃ x : α, R w cs x ∧ G x)
    (h : DataW.trod enc P w base (fun _ => true) held fuel t [.slice A len cap] = some x) :
    len ≤ maxLen ∧ ∃ l : List α, l.length = len ∧ RecsAt m R w (.slice A len cap) l ∧ ∀ x ∈ l, G x := by
  rcases open_slice ht h with ⟨h0, _⟩ | ⟨a, l, c, mm, n, D, Pl, hcs, _, hl, hm, hmm, _, hi⟩
  · simp at h0
    obtain ⟨rfl, rfl, rfl⟩ := h0
    exact ⟨by simp [maxLen], [], rfl, ⟨none, 0, rfl, Nat.le_refl _, fun h => by simp at h⟩, by simp⟩
  · simp at hcs
    obtain ⟨rfl, rfl, rfl⟩ := hcs
    have hmc : mm = cap := by simpa using hmm
    subst hmc
    have key : ∀ i, i < len → ∃ x : α, G x ∧ ∃ cs : List Value, cs.length = m ∧ R w cs x ∧ ∀ j u, cs[j]? = some u → w.cell? (a.add (i * m + j)) = some u := fun i hi' => by
      obtain ⟨cs', hc, ht'⟩ := hi i (by omega)
      rw [hC] at hc
      obtain ⟨x, hx, hg⟩ := elem _ _ _ ht'
      obtain ⟨_, hcl, hat⟩ := World.cells?_some hc
      refine ⟨x, hg, cs', hcl, hx, fun j u hj => ?_⟩
      have hjl : j < m := by rw [← hcl]; exact (List.getElem?_eq_some_iff.1 hj).1
      rw [← Go.Deep.add_add, hat j hjl, hj]
    refine ⟨by omega, (List.range len).map fun i => if h : i < len then (key i h).choose else x0, by simp, ⟨some a, mm, by simp, by simpa using hl, fun hpos => ?_⟩, ?_⟩
    · obtain ⟨b, o, spot⟩ := a
      have hl0 : 0 < len := by simpa using hpos
      have h00 : ∃ u, w.cell? ((⟨b, o, spot⟩ : Addr).add 0) = some u := by
        obtain ⟨_, _, cs, hcl, _, hat⟩ := key 0 hl0
        refine ⟨cs[0]'(by omega), ?_⟩
        have := hat 0 _ (List.getElem?_eq_getElem (by omega))
        simpa using this
      have hspot : spot = none := by
        obtain ⟨u, hu⟩ := h00
        simpa [Addr.add] using World.cell?_spot hu
      subst hspot
      refine ⟨b, o, rfl, ?_, fun j p hj => ?_⟩
      · obtain ⟨u, hu⟩ := h00
        rw [Addr.add_lit] at hu
        exact block_lt_of_cell hu
      · rw [List.getElem?_map] at hj
        have hjl : j < len := by
          rcases Nat.lt_or_ge j len with h | h
          · exact h
          · rw [List.getElem?_eq_none (by simpa using h)] at hj; simp at hj
        rw [List.getElem?_range hjl] at hj
        simp only [Option.map_some, Option.some.injEq, hjl, dif_pos] at hj
        obtain ⟨_, cs, k0, k1, k2⟩ := (key j hjl).choose_spec
        rw [hj] at k1
        refine ⟨cs, k0, k1, fun i u hu => ?_⟩
        have := k2 i u hu
        rw [Addr.add_lit] at this
        rw [Nat.add_assoc]
        exact this
    · intro x hx
      obtain ⟨i, hi', rfl⟩ := List.mem_map.1 hx
      have hil := List.mem_range.1 hi'
      rw [dif_pos hil]
      exact (key i hil).choose_spec.1
theorem cells_fields {e : TypeId} {fs : Array Field} {n : Nat} {cs : List Value} {y : DataW H × List MemPlace} (he : P.underlying e = some (.struct fs)) (hone : oneCellFields P fs = true) (hC : P.cellsOf e = fs.size)
    (h : DataW.trod enc P w base (fun _ => true) held n e cs = some y) :
    cs.length = fs.size ∧ ∀ (j : Nat) (f : Field), fs[j]? = some f → ∃ (v : Value) (z : DataW H × List MemPlace) (k : Nat), cs[j]? = some v ∧ DataW.trod enc P w base (fun _ => true) held k f.type [v] = some z := by
  obtain ⟨ys, n', hn', hy, hlen, hyl, hf⟩ := DataW.trod_struct he h
  refine ⟨by rw [hlen, hC], fun j f hj => ?_⟩
  obtain ⟨ho, hk⟩ := hone_of hone j f hj
  have hjl : j < fs.size := (Array.getElem?_eq_some_iff.1 hj).1
  have h1 := hf j f hj
  rw [ho, hk] at h1
  have hone' : (cs.drop j).take 1 = [cs[j]'(by omega)] := by
    rw [List.drop_eq_getElem_cons (by omega)]
    rfl
  rw [hone'] at h1
  have hys : ys[j]? = some (ys[j]'(by omega)) := List.getElem?_eq_getElem (by omega)
  exact ⟨_, _, _, List.getElem?_eq_getElem (by omega), h1.trans hys⟩
theorem cells_int {t : TypeId} {n : Nat} {v : Value} {y : DataW H × List MemPlace} (t0 : P.underlying t = some (.int .i64)) (h : DataW.trod enc P w base (fun _ => true) held n t [v] = some y) : ∃ a : Int, v = .int .i64 a ∧ (Lit.int .i64 a).wf = true := by
  obtain ⟨a, e0, _, w0⟩ := DataW.trod_int t0 h
  simp at e0
  exact ⟨a, e0, w0⟩
theorem cells_pair {e : TypeId} {f0 f1 : Field} {n : Nat} {cs : List Value} {y : DataW H × List MemPlace} (he : P.underlying e = some (.struct #[f0, f1])) (hone : oneCellFields P #[f0, f1] = true) (hC : P.cellsOf e = 2)
    (t0 : P.underlying f0.type = some (.int .i64)) (t1 : P.underlying f1.type = some (.int .i64)) (h : DataW.trod enc P w base (fun _ => true) held n e cs = some y) :
    ∃ p : Int × Int, cs = [.int .i64 p.1, .int .i64 p.2] ∧ (Lit.int .i64 p.1).wf = true ∧ (Lit.int .i64 p.2).wf = true := by
  obtain ⟨hl, hf⟩ := cells_fields he hone hC h
  obtain ⟨v0, _, _, c0, h0⟩ := hf 0 f0 rfl
  obtain ⟨v1, _, _, c1, h1⟩ := hf 1 f1 rfl
  obtain ⟨a, rfl, wa⟩ := cells_int t0 h0
  obtain ⟨b, rfl, wb⟩ := cells_int t1 h1
  match cs, hl, c0, c1 with
  | [u0, u1], _, c0, c1 =>
    simp only [List.getElem?_cons_zero, List.getElem?_cons_succ, Option.some.injEq] at c0 c1
    subst c0 c1
    exact ⟨(a, b), rfl, wa, wb⟩
theorem cells_four {e : TypeId} {f0 f1 f2 f3 : Field} {n : Nat} {cs : List Value} {y : DataW H × List MemPlace} (he : P.underlying e = some (.struct #[f0, f1, f2, f3])) (hone : oneCellFields P #[f0, f1, f2, f3] = true) (hC : P.cellsOf e = 4)
    (t0 : P.underlying f0.type = some (.int .i64)) (t1 : P.underlying f1.type = some (.int .i64)) (t2 : P.underlying f2.type = some (.int .i64)) (t3 : P.underlying f3.type = some (.int .i64)) (h : DataW.trod enc P w base (fun _ => true) held n e cs = some y) :
    ∃ p : Int × Int × Int × Int, cs = [.int .i64 p.1, .int .i64 p.2.1, .int .i64 p.2.2.1, .int .i64 p.2.2.2] ∧ (Lit.int .i64 p.1).wf = true ∧ (Lit.int .i64 p.2.1).wf = true ∧ (Lit.int .i64 p.2.2.1).wf = true ∧ (Lit.int .i64 p.2.2.2).wf = true := by
  obtain ⟨hl, hf⟩ := cells_fields he hone hC h
  obtain ⟨v0, _, _, c0, h0⟩ := hf 0 f0 rfl
  obtain ⟨v1, _, _, c1, h1⟩ := hf 1 f1 rfl
  obtain ⟨v2, _, _, c2, h2⟩ := hf 2 f2 rfl
  obtain ⟨v3, _, _, c3, h3⟩ := hf 3 f3 rfl
  obtain ⟨a, rfl, wa⟩ := cells_int t0 h0
  obtain ⟨b, rfl, wb⟩ := cells_int t1 h1
  obtain ⟨c, rfl, wc⟩ := cells_int t2 h2
  obtain ⟨d, rfl, wd⟩ := cells_int t3 h3
  match cs, hl, c0, c1, c2, c3 with
  | [u0, u1, u2, u3], _, c0, c1, c2, c3 =>
    simp only [List.getElem?_cons_zero, List.getElem?_cons_succ, Option.some.injEq] at c0 c1 c2 c3
    subst c0 c1 c2 c3
    exact ⟨(a, b, c, d), rfl, wa, wb, wc, wd⟩
theorem cells_slice {t e : TypeId} {n : Nat} {v : Value} {y : DataW H × List MemPlace} (ht : P.underlying t = some (.slice e)) (h : DataW.trod enc P w base (fun _ => true) held n t [v] = some y) : ∃ A len cap, v = .slice A len cap := by
  rcases open_slice ht h with ⟨h0, _⟩ | ⟨a, l, c, mm, n, D, Pl, hcs, _⟩
  · simp at h0; exact ⟨_, _, _, h0⟩
  · simp at hcs; exact ⟨_, _, _, hcs⟩
end
open Go.ChangeShapes Go.WideShapes Go.Deep Go.RowKit Go.Maps
section
variable {H : Type} {enc : TypeId × Value → H} {P : Program} {w : World} {base : Nat} {held : Bool}
def wf64 (a : Int) : Prop := (Lit.int .i64 a).wf = true
def SnIn (s : Sn) : Prop := wf64 s.time ∧ s.ps.length ≤ maxLen ∧ s.gs.length ≤ maxLen ∧ (∀ p ∈ s.ps, wf64 p.1 ∧ wf64 p.2) ∧ ∀ g ∈ s.gs, wf64 g.1 ∧ wf64 g.2.1 ∧ wf64 g.2.2.1 ∧ wf64 g.2.2.2
theorem open_snap {r : Reach} {b0 : Nat} {t ep eg : TypeId} {f0 f1 f2 p0 p1 g0 g1 g2 g3 : Field} {v : Value} {d : DataW H} {p : List MemPlace} (hs : P.underlying t = some (.struct #[f0, f1, f2])) (hone : oneCellFields P #[f0, f1, f2] = true) (hC : P.cellsOf t = 3)
    (t0 : P.underlying f0.type = some (.int .i64)) (t1 : P.underlying f1.type = some (.slice ep)) (t2 : P.underlying f2.type = some (.slice eg))
    (hp : P.underlying ep = some (.struct #[p0, p1])) (hpo : oneCellFields P #[p0, p1] = true) (hpC : P.cellsOf ep = 2) (tp : P.underlying p0.type = some (.int .i64) ∧ P.underlying p1.type = some (.int .i64))
    (hg : P.underlying eg = some (.struct #[g0, g1, g2, g3])) (hgo : oneCellFields P #[g0, g1, g2, g3] = true) (hgC : P.cellsOf eg = 4) (tg : P.underlying g0.type = some (.int .i64) ∧ P.underlying g1.type = some (.int .i64) ∧ P.underlying g2.type = some (.int .i64) ∧ P.underlying g3.type = some (.int .i64))
    (hv : Value.okWide P w r b0 t v) (h : DataW.Trod enc P w base (fun _ => true) held t v d p) : ∃ s : Sn, SnAt w v s ∧ SnIn s := by
  obtain ⟨v0, v1, v2, y0, y1, y2, n, rfl, _, _, h0, h1, h2⟩ := Go.Joins.open_agg3 hs hone hC hv h
  obtain ⟨a, rfl, wa⟩ := cells_int t0 h0
  obtain ⟨A, l, c, rfl⟩ := cells_slice t1 h1
  obtain ⟨B, m, d, rfl⟩ := cells_slice t2 h2
  obtain ⟨m1, ps, rfl, hps, wps⟩ := open_recs (R := fun _ cs x => cs = snPCells x) (G := fun p => wf64 p.1 ∧ wf64 p.2) (0, 0) t1 hpC (by decide) (fun n cs y hy => cells_pair hp hpo hpC tp.1 tp.2 hy) h1
  obtain ⟨m2, gs, rfl, hgs, wgs⟩ := open_recs (R := fun _ cs x => cs = snGCells x) (G := fun g => wf64 g.1 ∧ wf64 g.2.1 ∧ wf64 g.2.2.1 ∧ wf64 g.2.2.2) (0, 0, 0, 0) t2 hgC (by decide) (fun n cs y hy => cells_four hg hgo hgC tg.1 tg.2.1 tg.2.2.1 tg.2.2.2 hy) h2
  exact ⟨⟨a, ps, gs⟩, ⟨A, c, B, d, rfl, hps.rows, hgs.rows⟩, wa, m1, m2, wps, wgs⟩
end
open Go.ChangeShapes Go.WideShapes Go.Deep Go.RowKit Go.Maps
section
variable {H : Type} {enc : TypeId × Value → H} {w : World} {base : Nat} {held : Bool}
def LgIn (l : Lg) (wy st : Value) : Prop := wy.oneCell' = true ∧ st.oneCell' = true ∧ wf64 l.time ∧ wf64 l.m ∧ wf64 l.kind ∧ wf64 l.g ∧ wf64 l.p ∧ wf64 l.seq
theorem array8 {α : Type} {cs : Array α} (h : cs.size = 8) : ∃ c0 c1 c2 c3 c4 c5 c6 c7, cs = #[c0, c1, c2, c3, c4, c5, c6, c7] := by
  obtain ⟨l⟩ := cs
  match l, h with
  | [c0, c1, c2, c3, c4, c5, c6, c7], _ => exact ⟨c0, c1, c2, c3, c4, c5, c6, c7, rfl⟩
set_option maxRecDepth 100000 in
theorem open_log {r : Reach} {b : Nat} {v : Value} {d : DataW H} {p : List MemPlace} (hv : Value.okWide Tryd.prog w r b 34 v) (h : DataW.Trod enc Tryd.prog w base (fun _ => true) held 34 v d p) :
    ∃ l wy st, v = lgV l wy st ∧ LgIn l wy st := by
  obtain ⟨cs, rfl, hsz⟩ := okWide_struct Tryd.underlying34 hv
  obtain ⟨c0, c1, c2, c3, c4, c5, c6, c7, rfl⟩ := array8 (hsz.trans (by kernel_rfl))
  obtain ⟨fuel, hf⟩ := h
  have hf' : DataW.trod enc Tryd.prog w base (fun _ => true) held fuel 34 [c0, c1, c2, c3, c4, c5, c6, c7] = some (d, p) := by simpa [Value.cells] using hf
  obtain ⟨-, hfd⟩ := cells_fields Tryd.underlying34 (by kernel_rfl) (by kernel_rfl) hf'
  obtain ⟨v0, _, _, k0, h0⟩ := hfd 0 _ rfl
  obtain ⟨v1, _, _, k1, h1⟩ := hfd 1 _ rfl
  obtain ⟨v2, _, _, k2, h2⟩ := hfd 2 _ rfl
  obtain ⟨v3, _, _, k3, h3⟩ := hfd 3 _ rfl
  obtain ⟨v4, _, _, k4, h4⟩ := hfd 4 _ rfl
  obtain ⟨v5, _, _, k5, h5⟩ := hfd 5 _ rfl
  obtain ⟨v6, _, _, k6, h6⟩ := hfd 6 _ rfl
  obtain ⟨v7, _, _, k7, h7⟩ := hfd 7 _ rfl
  obtain ⟨sy, e6, _, _⟩ := DataW.trod_string Tryd.underlying9 h6
  obtain rfl : v6 = .string sy := by simpa using e6
  obtain ⟨A7, n7, c7', rfl⟩ := cells_slice Tryd.underlying32 h7
  obtain ⟨a0, rfl, w0⟩ := cells_int Tryd.underlying3 h0
  obtain ⟨a1, rfl, w1⟩ := cells_int Tryd.underlying3 h1
  obtain ⟨a2, rfl, w2⟩ := cells_int Tryd.underlying3 h2
  obtain ⟨a3, rfl, w3⟩ := cells_int Tryd.underlying3 h3
  obtain ⟨a4, rfl, w4⟩ := cells_int Tryd.underlying3 h4
  obtain ⟨a5, rfl, w5⟩ := cells_int Tryd.underlying3 h5
  simp only [List.getElem?_cons_zero, List.getElem?_cons_succ, Option.some.injEq] at k0 k1 k2 k3 k4 k5 k6 k7
  subst k0 k1 k2 k3 k4 k5 k6 k7
  exact ⟨⟨a0, a1, a2, a3, a4, a5⟩, _, _, rfl, rfl, rfl, w0, w1, w2, w3, w4, w5⟩
end
open Go.ChangeShapes Go.WideShapes Go.Deep Go.RowKit Go.Maps
section
variable {H : Type} {enc : TypeId × Value → H} {w : World} {base : Nat} {held : Bool}
def LeIn (e : Le) : Prop := (∃ A n c, e.stack = .slice A n c) ∧ e.why.size ≤ maxLen ∧ wf64 e.l.time ∧ wf64 e.l.m ∧ wf64 e.l.kind ∧ wf64 e.l.g ∧ wf64 e.l.p ∧ wf64 e.l.seq
def SpIn (s : Sp) : Prop := s.why.size ≤ maxLen ∧ wf64 s.fr ∧ wf64 s.till ∧ wf64 s.st ∧ wf64 s.n
theorem cells_le {n : Nat} {cs : List Value} {y : DataW H × List MemPlace} (h : DataW.trod enc Tryd.prog w base (fun _ => true) held n 34 cs = some y) : ∃ e : Le, cs = leL e ∧ LeIn e := by
  obtain ⟨hl, hfd⟩ := cells_fields Tryd.underlying34 (by kernel_rfl) (by kernel_rfl) h
  obtain ⟨v0, _, _, k0, h0⟩ := hfd 0 _ rfl
  obtain ⟨v1, _, _, k1, h1⟩ := hfd 1 _ rfl
  obtain ⟨v2, _, _, k2, h2⟩ := hfd 2 _ rfl
  obtain ⟨v3, _, _, k3, h3⟩ := hfd 3 _ rfl
  obtain ⟨v4, _, _, k4, h4⟩ := hfd 4 _ rfl
  obtain ⟨v5, _, _, k5, h5⟩ := hfd 5 _ rfl
  obtain ⟨v6, _, _, k6, h6⟩ := hfd 6 _ rfl
  obtain ⟨v7, _, _, k7, h7⟩ := hfd 7 _ rfl
  obtain ⟨sy, e6, _, hsy⟩ := DataW.trod_string Tryd.underlying9 h6
  obtain rfl : v6 = .string sy := by simpa using e6
  obtain ⟨A7, n7, c7', rfl⟩ := cells_slice Tryd.underlying32 h7
  obtain ⟨a0, rfl, w0⟩ := cells_int Tryd.underlying3 h0
  obtain ⟨a1, rfl, w1⟩ := cells_int Tryd.underlying3 h1
  obtain ⟨a2, rfl, w2⟩ := cells_int Tryd.underlying3 h2
  obtain ⟨a3, rfl, w3⟩ := cells_int Tryd.underlying3 h3
  obtain ⟨a4, rfl, w4⟩ := cells_int Tryd.underlying3 h4
  obtain ⟨a5, rfl, w5⟩ := cells_int Tryd.underlying3 h5
  match cs, hl, k0, k1, k2, k3, k4, k5, k6, k7 with
  | [u0, u1, u2, u3, u4, u5, u6, u7], _, k0, k1, k2, k3, k4, k5, k6, k7 =>
    simp only [List.getElem?_cons_zero, List.getElem?_cons_succ, Option.some.injEq] at k0 k1 k2 k3 k4 k5 k6 k7
    subst k0 k1 k2 k3 k4 k5 k6 k7
    exact ⟨⟨⟨a0, a1, a2, a3, a4, a5⟩, sy, _⟩, rfl, ⟨_, _, _, rfl⟩, hsy, w0, w1, w2, w3, w4, w5⟩
theorem cells_sp {n : Nat} {cs : List Value} {y : DataW H × List MemPlace} (h : DataW.trod enc Tryd.prog w base (fun _ => true) held n 36 cs = some y) : ∃ s : Sp, cs = spL s ∧ SpIn s := by
  obtain ⟨hl, hfd⟩ := cells_fields Tryd.underlying36 (by kernel_rfl) (by kernel_rfl) h
  obtain ⟨v0, _, _, k0, h0⟩ := hfd 0 _ rfl
  obtain ⟨v1, _, _, k1, h1⟩ := hfd 1 _ rfl
  obtain ⟨v2, _, _, k2, h2⟩ := hfd 2 _ rfl
  obtain ⟨v3, _, _, k3, h3⟩ := hfd 3 _ rfl
  obtain ⟨v4, _, _, k4, h4⟩ := hfd 4 _ rfl
  obtain ⟨sy, e4, _, hsy⟩ := DataW.trod_string Tryd.underlying9 h4
  obtain rfl : v4 = .string sy := by simpa using e4
  obtain ⟨a0, rfl, w0⟩ := cells_int Tryd.underlying3 h0
  obtain ⟨a1, rfl, w1⟩ := cells_int Tryd.underlying3 h1
  obtain ⟨a2, rfl, w2⟩ := cells_int Tryd.underlying3 h2
  obtain ⟨a3, rfl, w3⟩ := cells_int Tryd.underlying3 h3
  match cs, hl, k0, k1, k2, k3, k4 with
  | [u0, u1, u2, u3, u4], _, k0, k1, k2, k3, k4 =>
    simp only [List.getElem?_cons_zero, List.getElem?_cons_succ, Option.some.injEq] at k0 k1 k2 k3 k4
    subst k0 k1 k2 k3 k4
    exact ⟨⟨a0, a1, a2, a3, sy⟩, rfl, hsy, w0, w1, w2, w3⟩
def Le.nil : Le := ⟨⟨0, 0, 0, 0, 0, 0⟩, ByteArray.empty, .nilIface⟩
def Sp.nil : Sp := ⟨0, 0, 0, 0, ByteArray.empty⟩
theorem open_logs {A : Option Addr} {len cap fuel : Nat} {y : DataW H × List MemPlace} (h : DataW.trod enc Tryd.prog w base (fun _ => true) held fuel 26 [.slice A len cap] = some y) :
    len ≤ maxLen ∧ ∃ l : List Le, len = l.length ∧ RowsAt 8 leL w (.slice A l.length cap) l ∧ ∀ e ∈ l, LeIn e := by
  obtain ⟨hlen, l, rfl, hr, hg⟩ := open_recs (m := 8) (R := fun _ cs x => cs = leL x) (G := LeIn) Le.nil Tryd.underlying26 (by kernel_rfl) (by decide) (fun n cs y hy => cells_le hy) h
  exact ⟨hlen, l, rfl, hr.rows, hg⟩
theorem open_spans {A : Option Addr} {len cap fuel : Nat} {y : DataW H × List MemPlace} (h : DataW.trod enc Tryd.prog w base (fun _ => true) held fuel 27 [.slice A len cap] = some y) :
    len ≤ maxLen ∧ ∃ l : List Sp, len = l.length ∧ RowsAt 5 spL w (.slice A l.length cap) l ∧ ∀ s ∈ l, SpIn s := by
  obtain ⟨hlen, l, rfl, hr, hg⟩ := open_recs (m := 5) (R := fun _ cs x => cs = spL x) (G := SpIn) Sp.nil Tryd.underlying27 (by kernel_rfl) (by decide) (fun n cs y hy => cells_sp hy) h
  exact ⟨hlen, l, rfl, hr.rows, hg⟩
end
end Go.Proofs.YtohncgikdlbogaaDoor
