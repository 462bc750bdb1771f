/-
  The walk of the statement BatchBack.
-/
import Derived.Test.YtlbhpgieehallaaBi
import Derived.Test.YtlbhpgieehallaaLb
import Derived.Deep.DeepCutAuto
set_option linter.unusedVariables false
set_option linter.unusedSimpArgs false
namespace Go.Proofs.Ytlbhpgieehallaa
open Go.RowKit

theorem Bt.enc_isnil {b : Bt} (h : b.may = true) : 0 < b.enc.size := by rw [Bt.enc_size h]; unfold Bt.encL; simp
theorem Bt.encL_le {b : Bt} (h : b.may = true) : b.encL.length ≤ 37 + b.body.size := by
  obtain ⟨_, h2, h3⟩ := Bt.may_parts h
  have h9 := Wi.cat_len [b.gen, b.stream, b.base] (fun x hx => Ev.ok_wi.1 (h2 x hx))
  have hp : (Va.put b.body.size).length ≤ 9 := by
    have := @Va.puts_nine (b.body.size : Int) (by omega) (by omega)
    rw [← Va.puts_size]; simpa using this
  unfold Bt.encL
  simp only [List.length_cons, List.length_append, List.length_nil] at h9 ⊢
  have : b.body.data.toList.length = b.body.size := by simp
  omega
/-- What is decoded: it may be, and its bytes are those that stood there. -/
theorem Bt.dec_first {s : ByteArray} {b : Bt} {p : Int} (h : Bt.decP s 0 = (b, p, 0)) : ∃ c : Nat, p = (c : Int) ∧ b.may = true ∧ c ≤ s.size ∧ b.enc = s.extract 0 c := by
  have hd := Bt.decP_nat s 0 (by omega)
  rw [List.drop_zero] at hd
  rw [show ((0 : Int)) = ((0 : Nat) : Int) from rfl, hd] at h
  rcases ht : Bt.dec s.data.toList with ⟨b', c, e⟩
  rw [ht] at h
  simp only [Prod.mk.injEq] at h
  obtain ⟨rfl, hp, he⟩ := h
  obtain rfl : e = 0 := by omega
  rw [if_pos rfl] at hp
  obtain ⟨hm, hc, r, hL⟩ := Bt.dec_ok ht
  have hsz : s.data.toList.length = s.size := by simp
  have hle : c ≤ s.size := by
    have := congrArg List.length hL
    rw [List.length_append, hsz] at this
    omega
  refine ⟨c, by omega, hm, hle, ?_⟩
  apply ByteArray.ext
  apply Array.toList_inj.1
  rw [Bt.enc_data hm, Lib.extract_data, hL, hc]
  simp
theorem Bt.dec_two {a b : Bt} (ha : a.may = true) (hb : b.may = true) : Bt.decP (a.enc ++ b.enc) 0 = (a, (a.enc.size : Int), 0) ∧ Bt.decP (a.enc ++ b.enc) (a.enc.size : Int) = (b, (a.enc.size : Int) + (b.enc.size : Int), 0) := by
  have hL : (a.enc ++ b.enc).data.toList = a.encL ++ b.encL := by
    rw [ByteArray.data_append, Array.toList_append, Bt.enc_data ha, Bt.enc_data hb]
  have hz : (a.enc ++ b.enc).size = a.encL.length + b.encL.length := by rw [ByteArray.size_append, Bt.enc_size ha, Bt.enc_size hb]
  constructor
  · have hd := Bt.decP_nat (a.enc ++ b.enc) 0 (by omega)
    rw [List.drop_zero, hL, Bt.dec_enc ha] at hd
    rw [show ((0 : Int)) = ((0 : Nat) : Int) from rfl, hd, Bt.enc_size ha]
    simp
  · have hd := Bt.decP_nat (a.enc ++ b.enc) a.encL.length (by omega)
    have he := Bt.dec_enc hb []
    rw [List.append_nil] at he
    rw [hL, List.drop_left, he] at hd
    rw [Bt.enc_size ha, hd, Bt.enc_size hb]
    simp
theorem Bt.dec_cutP {a : Bt} (ha : a.may = true) {k : Nat} (hk : k < a.enc.size) : Bt.decP (a.enc.extract 0 k) 0 = (⟨0, 0, 0, ⟨#[]⟩⟩, 0, 10) := by
  rw [Bt.enc_size ha] at hk
  have hd := Bt.decP_nat (a.enc.extract 0 k) 0 (by omega)
  have hL : (a.enc.extract 0 k).data.toList = a.encL.take k := by
    rw [Lib.extract_data, Bt.enc_data ha]; simp
  rw [List.drop_zero, hL, Bt.dec_cut ha hk] at hd
  rw [show ((0 : Int)) = ((0 : Nat) : Int) from rfl, hd]
  rfl

/-- Two blocks of batches, in either order. -/
def PT (W : World) (u : Value) (v : World) : Prop := ∃ x, u = .pointer (some ⟨x, 0, none⟩) ∧ W.heap.size ≤ x ∧ v.heap[x]? = some (.cells #[.int .i64 0, .int .i64 0, .int .i64 0, .string ⟨#[]⟩] 23 (0, 0)) ∧ Ext W v
theorem PT.x {W : World} {u : Value} {v : World} (h : PT W u v) : Ext W v := by obtain ⟨_, _, _, _, h⟩ := h; exact h
def PT2 (W : World) (x : Nat) (u : Value) (v : World) : Prop := ∃ y, u = .pointer (some ⟨y, 0, none⟩) ∧ x ≠ y ∧ W.heap.size ≤ x ∧ W.heap.size ≤ y ∧ v.heap[x]? = some (.cells #[.int .i64 0, .int .i64 0, .int .i64 0, .string ⟨#[]⟩] 23 (0, 0)) ∧ v.heap[y]? = some (.cells #[.int .i64 0, .int .i64 0, .int .i64 0, .string ⟨#[]⟩] 23 (0, 0)) ∧ Ext W v
theorem PT2.x {W : World} {x : Nat} {u : Value} {v : World} (h : PT2 W x u v) : Ext W v := by obtain ⟨_, _, _, _, _, _, _, h⟩ := h; exact h
def PS (W : World) (x y : Nat) (ca cb : Array Value) (_ : Value) (v : World) : Prop := v.heap[x]? = some (.cells ca 23 (0, 0)) ∧ v.heap[y]? = some (.cells cb 23 (0, 0)) ∧ Ext W v
theorem PT2.at {W : World} {x y : Nat} {v : World} (h : PT2 W x (.pointer (some ⟨y, 0, none⟩)) v) : x ≠ y ∧ W.heap.size ≤ x ∧ W.heap.size ≤ y ∧ PS W x y #[.int .i64 0, .int .i64 0, .int .i64 0, .string ⟨#[]⟩] #[.int .i64 0, .int .i64 0, .int .i64 0, .string ⟨#[]⟩] undef v := by
  obtain ⟨y', hy, h1, h2, h3, h4, h5, h6⟩ := h
  simp only [Value.pointer.injEq, Option.some.injEq, Addr.mk.injEq, and_true] at hy
  subst hy
  exact ⟨h1, h2, h3, h4, h5, h6⟩
theorem set4_at {v : World} {x : Nat} {c0 c1 c2 c3 : Value} {t : TypeId} (h : v.heap[x]? = some (.cells #[c0, c1, c2, c3] t (0, 0))) (d0 d1 d2 d3 : Value) :
    ((((v.setCell ⟨x, 0, none⟩ d0).setCell ⟨x, 1, none⟩ d1).setCell ⟨x, 2, none⟩ d2).setCell ⟨x, 3, none⟩ d3).heap[x]? = some (.cells #[d0, d1, d2, d3] t (0, 0)) :=
  blk_set (blk_set (blk_set (blk_set h 0 d0) 1 d1) 2 d2) 3 d3
theorem set4_off {v : World} {x y : Nat} {o : Obj} (h : v.heap[y]? = some o) (hne : x ≠ y) (d0 d1 d2 d3 : Value) :
    ((((v.setCell ⟨x, 0, none⟩ d0).setCell ⟨x, 1, none⟩ d1).setCell ⟨x, 2, none⟩ d2).setCell ⟨x, 3, none⟩ d3).heap[y]? = some o :=
  blk_set_other (blk_set_other (blk_set_other (blk_set_other h _ hne _) _ hne _) _ hne _) _ hne _
theorem set4_ext {W v : World} {x : Nat} (h : Ext W v) (hx : W.heap.size ≤ x) (d0 d1 d2 d3 : Value) :
    Ext W ((((v.setCell ⟨x, 0, none⟩ d0).setCell ⟨x, 1, none⟩ d1).setCell ⟨x, 2, none⟩ d2).setCell ⟨x, 3, none⟩ d3) :=
  (((h.setCell hx _).setCell hx _).setCell hx _).setCell hx _
set_option maxRecDepth 100000 in
set_option maxHeartbeats 4000000 in
theorem bback_all (g st ba : Int) (bo : ByteArray) (g' st' ba' : Int) (bo' s : ByteArray) (cut : Int) (w : World) (hbo : bo.size ≤ maxLen) (hbo' : bo'.size ≤ maxLen) (hs : s.size ≤ maxLen) (hct : cut < 0 ∨ ∃ q : Nat, cut = q) :
    Calls Try.prog 4 #[.agg #[.int .i64 g, .int .i64 st, .int .i64 ba, .string bo, .int .i64 g', .int .i64 st', .int .i64 ba', .string bo'], .string s, .int .i64 cut] w fun e w' => e = .returned (.bool true) ∧ Ext w w' := by
  unfold maxLen at hbo hbo' hs
  have HCT := Lib.hid hct
  clear hct
  go_enter Try.func4, Try.ntmps4
  go_upto_region 1 with fail
  go_cut [7, 8] (fun s7 s8 wx => ∃ ga gb : Nat, s7 = .pointer (some ⟨ga, 0, none⟩) ∧ s8 = .pointer (some ⟨gb, 0, none⟩) ∧ wx.heap[ga]? = some (.cells #[.int .i64 g, .int .i64 st, .int .i64 ba, .string bo] 23 (0, 0)) ∧ wx.heap[gb]? = some (.cells #[.int .i64 g', .int .i64 st', .int .i64 ba', .string bo'] 23 (0, 0)) ∧ Ext w wx)
  case first =>
    rename_i q1 q2 q3 q4
    refine region_g 99 (fun v => Ext (w.alloc (.cells #[.int .i64 g, .int .i64 st, .int .i64 ba, .string bo, .int .i64 g', .int .i64 st', .int .i64 ba', .string bo'] 37)) v) (fun v => Ext (w.alloc (.cells #[.int .i64 g, .int .i64 st, .int .i64 ba, .string bo, .int .i64 g', .int .i64 st', .int .i64 ba', .string bo'] 37)) v) (by kernel_rfl) (Ext.refl _).drew ?_
    have HG : ∀ (l : Array Bool) v, Ext (w.alloc (.cells #[.int .i64 g, .int .i64 st, .int .i64 ba, .string bo, .int .i64 g', .int .i64 st', .int .i64 ba', .string bo'] 37)) v → l.getD 99 false = false → Ext (w.alloc (.cells #[.int .i64 g, .int .i64 st, .int .i64 ba, .string bo, .int .i64 g', .int .i64 st', .int .i64 ba', .string bo'] 37)) v := fun _ _ h _ => h
    have K0 : ∀ v, Ext (w.alloc (.cells #[.int .i64 g, .int .i64 st, .int .i64 ba, .string bo, .int .i64 g', .int .i64 st', .int .i64 ba', .string bo'] 37)) v → v.cell? ⟨w.heap.size, 0, none⟩ = some (.int .i64 g) := fun v hv => Ext.box hv 0 _ rfl
    have K1 : ∀ v, Ext (w.alloc (.cells #[.int .i64 g, .int .i64 st, .int .i64 ba, .string bo, .int .i64 g', .int .i64 st', .int .i64 ba', .string bo'] 37)) v → v.cell? ⟨w.heap.size, 1, none⟩ = some (.int .i64 st) := fun v hv => Ext.box hv 1 _ rfl
    have K2 : ∀ v, Ext (w.alloc (.cells #[.int .i64 g, .int .i64 st, .int .i64 ba, .string bo, .int .i64 g', .int .i64 st', .int .i64 ba', .string bo'] 37)) v → v.cell? ⟨w.heap.size, 2, none⟩ = some (.int .i64 ba) := fun v hv => Ext.box hv 2 _ rfl
    have K3 : ∀ v, Ext (w.alloc (.cells #[.int .i64 g, .int .i64 st, .int .i64 ba, .string bo, .int .i64 g', .int .i64 st', .int .i64 ba', .string bo'] 37)) v → v.cell? ⟨w.heap.size, 3, none⟩ = some (.string bo) := fun v hv => Ext.box hv 3 _ rfl
    have K4 : ∀ v, Ext (w.alloc (.cells #[.int .i64 g, .int .i64 st, .int .i64 ba, .string bo, .int .i64 g', .int .i64 st', .int .i64 ba', .string bo'] 37)) v → v.cell? ⟨w.heap.size, 4, none⟩ = some (.int .i64 g') := fun v hv => Ext.box hv 4 _ rfl
    have K5 : ∀ v, Ext (w.alloc (.cells #[.int .i64 g, .int .i64 st, .int .i64 ba, .string bo, .int .i64 g', .int .i64 st', .int .i64 ba', .string bo'] 37)) v → v.cell? ⟨w.heap.size, 5, none⟩ = some (.int .i64 st') := fun v hv => Ext.box hv 5 _ rfl
    have K6 : ∀ v, Ext (w.alloc (.cells #[.int .i64 g, .int .i64 st, .int .i64 ba, .string bo, .int .i64 g', .int .i64 st', .int .i64 ba', .string bo'] 37)) v → v.cell? ⟨w.heap.size, 6, none⟩ = some (.int .i64 ba') := fun v hv => Ext.box hv 6 _ rfl
    have K7 : ∀ v, Ext (w.alloc (.cells #[.int .i64 g, .int .i64 st, .int .i64 ba, .string bo, .int .i64 g', .int .i64 st', .int .i64 ba', .string bo'] 37)) v → v.cell? ⟨w.heap.size, 7, none⟩ = some (.string bo') := fun v hv => Ext.box hv 7 _ rfl
    refine g_take (HG _) (i := 0) (v := ?_) rfl (by kernel_rfl) (by kernel_rfl) (by kernel_rfl) (by kernel_rfl) (by kernel_rfl) (fun _ _ _ h => h) (Still.yes (by kernel_rfl) fun w hS => ?_) ?_
    rotate_left 1
    · skip
      go_simp
      refine gives_mk ?_ rfl
      with_reducible rfl
    refine g_take (HG _) (i := 1) (v := ?_) rfl (by kernel_rfl) (by kernel_rfl) (by kernel_rfl) (by kernel_rfl) (by kernel_rfl) (fun _ _ _ h => h) (Still.yes (by kernel_rfl) fun w hS => ?_) ?_
    rotate_left 1
    · skip
      go_simp
      refine gives_mk ?_ rfl
      with_reducible rfl
    refine g_take (HG _) (i := 2) (v := ?_) rfl (by kernel_rfl) (by kernel_rfl) (by kernel_rfl) (by kernel_rfl) (by kernel_rfl) (fun _ _ _ h => h) (Still.yes (by kernel_rfl) fun w hS => ?_) ?_
    rotate_left 1
    · skip
      go_simp
      refine gives_mk ?_ rfl
      with_reducible rfl
    refine g_take (HG _) (i := 3) (v := ?_) rfl (by kernel_rfl) (by kernel_rfl) (by kernel_rfl) (by kernel_rfl) (by kernel_rfl) (fun _ _ _ h => h) (Still.yes (by kernel_rfl) fun w hS => ?_) ?_
    rotate_left 1
    · skip
      go_simp
      refine gives_mk ?_ rfl
      with_reducible rfl
    refine g_two (PT (w.alloc (.cells #[.int .i64 g, .int .i64 st, .int .i64 ba, .string bo, .int .i64 g', .int .i64 st', .int .i64 ba', .string bo'] 37))) (PT (w.alloc (.cells #[.int .i64 g, .int .i64 st, .int .i64 ba, .string bo, .int .i64 g', .int .i64 st', .int .i64 ba', .string bo'] 37))) (k := 4) (l := 5) (by kernel_rfl) (fun _ _ h _ => h.x) (fun _ _ h _ => h.x) (fun v hv => ?_) (fun v hv => ?_)
    · refine at_value rfl (by kernel_rfl) (by go_simp; exact ⟨_, _, ⟨rfl, rfl⟩, v.heap.size, rfl, hv.size, blk_new _ _, hv.alloc _⟩) ?_
      rintro u ⟨_, ga, rfl, _⟩
      refine g_turn (PT2 (w.alloc (.cells #[.int .i64 g, .int .i64 st, .int .i64 ba, .string bo, .int .i64 g', .int .i64 st', .int .i64 ba', .string bo'] 37)) ga) (k := 5) (by kernel_rfl) (fun _ _ h _ => h.x) (fun v hv => ?_)
      obtain ⟨x, hx, hgx, hz, hext⟩ := hv
      simp only [Value.pointer.injEq, Option.some.injEq, Addr.mk.injEq, and_true] at hx
      subst hx
      refine at_value rfl (by kernel_rfl) (by go_simp; exact ⟨_, _, ⟨rfl, rfl⟩, v.heap.size, rfl, by have := blk_lt hz; omega, hgx, hext.size, blk_alloc hz _, blk_new _ _, hext.alloc _⟩) ?_
      clear hz hext hgx
      rintro u ⟨wq, gb, rfl, hq⟩
      have hne : ga ≠ gb := hq.1
      have hga := hq.2.1
      have hgb := hq.2.2.1
      clear hq
      refine g_turn (PS (w.alloc (.cells #[.int .i64 g, .int .i64 st, .int .i64 ba, .string bo, .int .i64 g', .int .i64 st', .int .i64 ba', .string bo'] 37)) ga gb #[.int .i64 g, .int .i64 st, .int .i64 ba, .string bo] #[.int .i64 0, .int .i64 0, .int .i64 0, .string ⟨#[]⟩]) (k := 6) (by kernel_rfl) (fun _ _ h _ => h.2.2) (fun v hv => ?_)
      refine at_skip rfl (by kernel_rfl) ?_ ?_
      · obtain ⟨h1, h2, hx⟩ := hv.at.2.2.2
        have hzb := h1
        have H2 := Lib.hid h2
        have HX := Lib.hid hx
        clear h1 h2 hx hv K0 K1 K2 K3 K4 K5 K6 K7 HG
        have z0 := blk_cell hzb 0 (.int .i64 0) rfl
        have z1 := blk_cell hzb 1 (.int .i64 0) rfl
        have z2 := blk_cell hzb 2 (.int .i64 0) rfl
        have z3 := blk_cell hzb 3 (.string ⟨#[]⟩) rfl
        have y0 := frozen_of_row _ _ 0 _ _ hzb
        have y1 := frozen_of_row _ _ 1 _ _ hzb
        have y2 := frozen_of_row _ _ 2 _ _ hzb
        have y3 := frozen_of_row _ _ 3 _ _ hzb
        have HZB := Lib.hid hzb
        clear hzb
        go_simp
        first | exact ⟨set4_at HZB.out _ _ _ _, set4_off H2.out hne _ _ _ _, set4_ext HX.out hga _ _ _ _⟩ | exact ⟨_, rfl, set4_at HZB.out _ _ _ _, set4_off H2.out hne _ _ _ _, set4_ext HX.out hga _ _ _ _⟩
      refine g_turn (PS (w.alloc (.cells #[.int .i64 g, .int .i64 st, .int .i64 ba, .string bo, .int .i64 g', .int .i64 st', .int .i64 ba', .string bo'] 37)) ga gb #[.int .i64 g, .int .i64 st, .int .i64 ba, .string bo] #[.int .i64 g', .int .i64 st', .int .i64 ba', .string bo']) (k := 7) (by kernel_rfl) (fun _ _ h _ => h.2.2) (fun v hv => ?_)
      refine at_skip rfl (by kernel_rfl) ?_ ?_
      · obtain ⟨h1, h2, hx⟩ := hv
        have hzb := h2
        have H1 := Lib.hid h1
        have HX := Lib.hid hx
        clear h1 h2 hx K0 K1 K2 K3 K4 K5 K6 K7 HG
        have z0 := blk_cell hzb 0 (.int .i64 0) rfl
        have z1 := blk_cell hzb 1 (.int .i64 0) rfl
        have z2 := blk_cell hzb 2 (.int .i64 0) rfl
        have z3 := blk_cell hzb 3 (.string ⟨#[]⟩) rfl
        have y0 := frozen_of_row _ _ 0 _ _ hzb
        have y1 := frozen_of_row _ _ 1 _ _ hzb
        have y2 := frozen_of_row _ _ 2 _ _ hzb
        have y3 := frozen_of_row _ _ 3 _ _ hzb
        have HZB := Lib.hid hzb
        clear hzb
        go_simp
        first | exact ⟨set4_off H1.out (Ne.symm hne) _ _ _ _, set4_at HZB.out _ _ _ _, set4_ext HX.out hgb _ _ _ _⟩ | exact ⟨_, rfl, set4_off H1.out (Ne.symm hne) _ _ _ _, set4_at HZB.out _ _ _ _, set4_ext HX.out hgb _ _ _ _⟩
      refine g_done (by kernel_rfl) ?_ _
      intro w6 hw6
      clear K0 K1 K2 K3 K4 K5 K6 K7 HG
      go_simp
      first | refine q4 _ _ (Met.intro (q3 _ _ ?_)) | refine Met.intro (q3 _ _ ?_) | refine q3 _ _ ?_
      repeat apply Exists.intro
      refine ⟨?rel, rfl⟩
      case rel => exact ⟨ga, gb, rfl, rfl, hw6.1, hw6.2.1, ((Ext.refl w).alloc _).trans hw6.2.2⟩
    · refine at_value rfl (by kernel_rfl) (by go_simp; exact ⟨_, _, ⟨rfl, rfl⟩, v.heap.size, rfl, hv.size, blk_new _ _, hv.alloc _⟩) ?_
      rintro u ⟨_, gb, rfl, _⟩
      refine g_turn (PT2 (w.alloc (.cells #[.int .i64 g, .int .i64 st, .int .i64 ba, .string bo, .int .i64 g', .int .i64 st', .int .i64 ba', .string bo'] 37)) gb) (k := 4) (by kernel_rfl) (fun _ _ h _ => h.x) (fun v hv => ?_)
      obtain ⟨x, hx, hgx, hz, hext⟩ := hv
      simp only [Value.pointer.injEq, Option.some.injEq, Addr.mk.injEq, and_true] at hx
      subst hx
      refine at_value rfl (by kernel_rfl) (by go_simp; exact ⟨_, _, ⟨rfl, rfl⟩, v.heap.size, rfl, by have := blk_lt hz; omega, hgx, hext.size, blk_alloc hz _, blk_new _ _, hext.alloc _⟩) ?_
      clear hz hext hgx
      rintro u ⟨wq, ga, rfl, hq⟩
      have hne : ga ≠ gb := Ne.symm hq.1
      have hgb := hq.2.1
      have hga := hq.2.2.1
      clear hq
      refine g_turn (PS (w.alloc (.cells #[.int .i64 g, .int .i64 st, .int .i64 ba, .string bo, .int .i64 g', .int .i64 st', .int .i64 ba', .string bo'] 37)) ga gb #[.int .i64 g, .int .i64 st, .int .i64 ba, .string bo] #[.int .i64 0, .int .i64 0, .int .i64 0, .string ⟨#[]⟩]) (k := 6) (by kernel_rfl) (fun _ _ h _ => h.2.2) (fun v hv => ?_)
      refine at_skip rfl (by kernel_rfl) ?_ ?_
      · obtain ⟨h1, h2, hx⟩ := (show PS (w.alloc (.cells #[.int .i64 g, .int .i64 st, .int .i64 ba, .string bo, .int .i64 g', .int .i64 st', .int .i64 ba', .string bo'] 37)) ga gb #[.int .i64 0, .int .i64 0, .int .i64 0, .string ⟨#[]⟩] #[.int .i64 0, .int .i64 0, .int .i64 0, .string ⟨#[]⟩] undef v from ⟨hv.at.2.2.2.2.1, hv.at.2.2.2.1, hv.at.2.2.2.2.2⟩)
        have hzb := h1
        have H2 := Lib.hid h2
        have HX := Lib.hid hx
        clear h1 h2 hx hv K0 K1 K2 K3 K4 K5 K6 K7 HG
        have z0 := blk_cell hzb 0 (.int .i64 0) rfl
        have z1 := blk_cell hzb 1 (.int .i64 0) rfl
        have z2 := blk_cell hzb 2 (.int .i64 0) rfl
        have z3 := blk_cell hzb 3 (.string ⟨#[]⟩) rfl
        have y0 := frozen_of_row _ _ 0 _ _ hzb
        have y1 := frozen_of_row _ _ 1 _ _ hzb
        have y2 := frozen_of_row _ _ 2 _ _ hzb
        have y3 := frozen_of_row _ _ 3 _ _ hzb
        have HZB := Lib.hid hzb
        clear hzb
        go_simp
        first | exact ⟨set4_at HZB.out _ _ _ _, set4_off H2.out hne _ _ _ _, set4_ext HX.out hga _ _ _ _⟩ | exact ⟨_, rfl, set4_at HZB.out _ _ _ _, set4_off H2.out hne _ _ _ _, set4_ext HX.out hga _ _ _ _⟩
      refine g_turn (PS (w.alloc (.cells #[.int .i64 g, .int .i64 st, .int .i64 ba, .string bo, .int .i64 g', .int .i64 st', .int .i64 ba', .string bo'] 37)) ga gb #[.int .i64 g, .int .i64 st, .int .i64 ba, .string bo] #[.int .i64 g', .int .i64 st', .int .i64 ba', .string bo']) (k := 7) (by kernel_rfl) (fun _ _ h _ => h.2.2) (fun v hv => ?_)
      refine at_skip rfl (by kernel_rfl) ?_ ?_
      · obtain ⟨h1, h2, hx⟩ := hv
        have hzb := h2
        have H1 := Lib.hid h1
        have HX := Lib.hid hx
        clear h1 h2 hx K0 K1 K2 K3 K4 K5 K6 K7 HG
        have z0 := blk_cell hzb 0 (.int .i64 0) rfl
        have z1 := blk_cell hzb 1 (.int .i64 0) rfl
        have z2 := blk_cell hzb 2 (.int .i64 0) rfl
        have z3 := blk_cell hzb 3 (.string ⟨#[]⟩) rfl
        have y0 := frozen_of_row _ _ 0 _ _ hzb
        have y1 := frozen_of_row _ _ 1 _ _ hzb
        have y2 := frozen_of_row _ _ 2 _ _ hzb
        have y3 := frozen_of_row _ _ 3 _ _ hzb
        have HZB := Lib.hid hzb
        clear hzb
        go_simp
        first | exact ⟨set4_off H1.out (Ne.symm hne) _ _ _ _, set4_at HZB.out _ _ _ _, set4_ext HX.out hgb _ _ _ _⟩ | exact ⟨_, rfl, set4_off H1.out (Ne.symm hne) _ _ _ _, set4_at HZB.out _ _ _ _, set4_ext HX.out hgb _ _ _ _⟩
      refine g_done (by kernel_rfl) ?_ _
      intro w6 hw6
      clear K0 K1 K2 K3 K4 K5 K6 K7 HG
      go_simp
      first | refine q4 _ _ (Met.intro (q3 _ _ ?_)) | refine Met.intro (q3 _ _ ?_) | refine q3 _ _ ?_
      repeat apply Exists.intro
      refine ⟨?rel, rfl⟩
      case rel => exact ⟨ga, gb, rfl, rfl, hw6.1, hw6.2.1, ((Ext.refl w).alloc _).trans hw6.2.2⟩
  case rest =>
    obtain ⟨ga, gb, rfl, rfl, ha, hb, hx⟩ := hcut
    have HA := Lib.hid (fun v (hv : Ext _ v) => C4.of ha hv)
    have HB := Lib.hid (fun v (hv : Ext _ v) => C4.of hb hv)
    have HX := Lib.hid hx
    clear ha hb hx
    go_wp2_with fail
    refine (bfixed_yes _).mono ?_
    rintro r w1 ⟨rfl, hx1⟩
    have HX1 := Lib.hid hx1
    clear hx1
    obtain ⟨a0, a1, a2, a3⟩ := HA.out _ HX1.out
    obtain ⟨b0, b1, b2, b3⟩ := HB.out _ HX1.out
    by_cases ho : bo.size ≤ 3000 ∧ bo'.size ≤ 3000 ∧ s.size ≤ 5000
    · obtain ⟨h1, h2, h3⟩ := ho
      rcases hp : Bt.decP s 0 with ⟨⟨gx, sx, bx, tx⟩, p, q⟩
      have HP := Lib.hid hp
      clear hp
      go_wp2_with fail
      refine (bdecode_eq s s rfl 0 gx sx bx tx p q HP.out _ (by unfold maxLen; omega)).mono ?_
      rintro r w2 ⟨rfl, hx2⟩
      have HX2 := Lib.hid (HX1.out.trans hx2)
      clear hx2 a0 a1 a2 a3 b0 b1 b2 b3
      go_upto_region 5 with fail
      go_cut [75] (fun s75 wy => s75 = .bool false ∧ Ext w2 wy)
      case first =>
        rename_i q1 q2 q3 q4
        by_cases hq : q = 0
        · subst hq
          obtain ⟨c, rfl, hm, hc, henc⟩ := Bt.dec_first HP.out
          have HM := Lib.hid hm
          have HEN := Lib.hid henc
          have hmin : min (c : Int) (s.size : Int) = (c : Int) := by omega
          have h4 : decide (s.size < c) = false := by simp; omega
          have h5 : (0 : Int) ≤ (c : Int) := by omega
          have h6 : (c : Int) ≤ (s.size : Int) := by omega
          have hnn : ((s.extract 0 c).toList != (s.extract 0 c).toList) = false := by simp
          clear hm henc
          refine region_all (fun v => Ext (w2.alloc (.cells #[.int .i64 gx, .int .i64 sx, .int .i64 bx, .string tx] 23)) v) (by kernel_rfl) (Ext.refl _).drew ?_
          have k0 : ∀ v, Ext (w2.alloc (.cells #[.int .i64 gx, .int .i64 sx, .int .i64 bx, .string tx] 23)) v → v.cell? ⟨w2.heap.size, 0, none⟩ = some (.int .i64 gx) := fun v hv => Ext.box hv 0 _ rfl
          have k1 : ∀ v, Ext (w2.alloc (.cells #[.int .i64 gx, .int .i64 sx, .int .i64 bx, .string tx] 23)) v → v.cell? ⟨w2.heap.size, 1, none⟩ = some (.int .i64 sx) := fun v hv => Ext.box hv 1 _ rfl
          have k2 : ∀ v, Ext (w2.alloc (.cells #[.int .i64 gx, .int .i64 sx, .int .i64 bx, .string tx] 23)) v → v.cell? ⟨w2.heap.size, 2, none⟩ = some (.int .i64 bx) := fun v hv => Ext.box hv 2 _ rfl
          have k3 : ∀ v, Ext (w2.alloc (.cells #[.int .i64 gx, .int .i64 sx, .int .i64 bx, .string tx] 23)) v → v.cell? ⟨w2.heap.size, 3, none⟩ = some (.string tx) := fun v hv => Ext.box hv 3 _ rfl
          refine all_take (i := 0) (v := ?_) rfl (by kernel_rfl) (by kernel_rfl) (by kernel_rfl) (fun _ _ _ h => h) (Tame.yes (by kernel_rfl) fun w hS => ?_) ?_
          rotate_left 1
          · skip
            go_simp
            try simp only [h4, hmin, hnn]
            refine gives_mk ?_ hS
            with_reducible rfl
          refine all_take (i := 1) (v := ?_) rfl (by kernel_rfl) (by kernel_rfl) (by kernel_rfl) (fun _ _ _ h => h) (Tame.yes (by kernel_rfl) fun w hS => ?_) ?_
          rotate_left 1
          · skip
            go_simp
            try simp only [h4, hmin, hnn]
            refine gives_mk ?_ hS
            with_reducible rfl
          refine all_take (i := 2) (v := ?_) rfl (by kernel_rfl) (by kernel_rfl) (by kernel_rfl) (fun _ _ _ h => h) (Tame.yes (by kernel_rfl) fun w hS => ?_) ?_
          rotate_left 1
          · skip
            go_simp
            try simp only [h4, hmin, hnn]
            refine gives_mk ?_ hS
            with_reducible rfl
          refine all_take (i := 3) (v := ?_) rfl (by kernel_rfl) (by kernel_rfl) (by kernel_rfl) (fun _ _ _ h => h) (Tame.yes (by kernel_rfl) fun w hS => ?_) ?_
          rotate_left 1
          · skip
            go_simp
            try simp only [h4, hmin, hnn]
            refine gives_mk ?_ hS
            with_reducible rfl
          refine all_take (i := 4) (v := .bool true) rfl (by kernel_rfl) (by kernel_rfl) (by kernel_rfl) (fun _ _ _ h => h) (Tame.yes (by kernel_rfl) fun w hS => ?_) ?_
          · go_simp
            refine gives_call ((bmay_eq gx sx bx tx true HM.out _).mono ?_)
            exact fun r w2 ⟨he, hx⟩ => ⟨he, hS.trans hx⟩
          refine all_take (i := 5) (v := ?_) rfl (by kernel_rfl) (by kernel_rfl) (by kernel_rfl) (fun _ _ _ h => h) (Tame.yes (by kernel_rfl) fun w hS => ?_) ?_
          rotate_left 1
          · skip
            go_simp
            try simp only [h4, hmin, hnn]
            refine gives_mk ?_ hS
            with_reducible rfl
          refine all_take (i := 6) (v := ?_) rfl (by kernel_rfl) (by kernel_rfl) (by kernel_rfl) (fun _ _ _ h => h) (Tame.yes (by kernel_rfl) fun w hS => ?_) ?_
          rotate_left 1
          · skip
            go_simp
            try simp only [h4, hmin, hnn]
            refine gives_mk ?_ hS
            with_reducible rfl
          refine all_take (i := 7) (v := ?_) rfl (by kernel_rfl) (by kernel_rfl) (by kernel_rfl) (fun _ _ _ h => h) (Tame.yes (by kernel_rfl) fun w hS => ?_) ?_
          rotate_left 1
          · skip
            go_simp
            try simp only [h4, hmin, hnn]
            refine gives_mk ?_ hS
            with_reducible rfl
          refine all_take (i := 8) (v := ?_) rfl (by kernel_rfl) (by kernel_rfl) (by kernel_rfl) (fun _ _ _ h => h) (Tame.yes (by kernel_rfl) fun w hS => ?_) ?_
          rotate_left 1
          · skip
            go_simp
            try simp only [h4, hmin, hnn]
            refine gives_mk ?_ hS
            with_reducible rfl
          refine all_take (i := 9) (v := ?_) rfl (by kernel_rfl) (by kernel_rfl) (by kernel_rfl) (fun _ _ _ h => h) (Tame.yes (by kernel_rfl) fun w hS => ?_) ?_
          rotate_left 1
          · skip
            go_simp
            try simp only [h4, hmin, hnn]
            refine gives_mk ?_ hS
            with_reducible rfl
          refine all_take (i := 10) (v := ?_) rfl (by kernel_rfl) (by kernel_rfl) (by kernel_rfl) (fun _ _ _ h => h) (Tame.yes (by kernel_rfl) fun w hS => ?_) ?_
          rotate_left 1
          · skip
            go_simp
            try simp only [h4, hmin, hnn]
            refine gives_mk ?_ hS
            with_reducible rfl
          refine all_take (i := 11) (v := ?_) rfl (by kernel_rfl) (by kernel_rfl) (by kernel_rfl) (fun _ _ _ h => h) (Tame.yes (by kernel_rfl) fun w hS => ?_) ?_
          rotate_left 1
          · skip
            go_simp
            try simp only [h4, hmin, hnn]
            refine gives_mk ?_ hS
            with_reducible rfl
          refine all_take (i := 12) (v := ?_) rfl (by kernel_rfl) (by kernel_rfl) (by kernel_rfl) (fun _ _ _ h => h) (Tame.yes (by kernel_rfl) fun w hS => ?_) ?_
          rotate_left 1
          · skip
            go_simp
            try simp only [h4, hmin, hnn]
            refine gives_mk ?_ hS
            with_reducible rfl
          refine all_take (i := 13) (v := ?_) rfl (by kernel_rfl) (by kernel_rfl) (by kernel_rfl) (fun _ _ _ h => h) (Tame.yes (by kernel_rfl) fun w hS => ?_) ?_
          rotate_left 1
          · skip
            go_simp
            try simp only [h4, hmin, hnn]
            refine gives_mk ?_ hS
            with_reducible rfl
          refine all_take (i := 14) (v := .string (s.extract 0 c)) rfl (by kernel_rfl) (by kernel_rfl) (by kernel_rfl) (fun _ _ _ h => h) (Tame.yes (by kernel_rfl) fun w hS => ?_) ?_
          · go_simp
            refine gives_call ((benc_eq gx sx bx tx _ HEN.out _).mono ?_)
            exact fun r w2 ⟨he, hx⟩ => ⟨he, hS.trans hx⟩
          refine all_take (i := 15) (v := ?_) rfl (by kernel_rfl) (by kernel_rfl) (by kernel_rfl) (fun _ _ _ h => h) (Tame.yes (by kernel_rfl) fun w hS => ?_) ?_
          rotate_left 1
          · skip
            go_simp
            try simp only [h4, hmin, hnn]
            refine gives_mk ?_ hS
            with_reducible rfl
          refine all_take (i := 16) (v := ?_) rfl (by kernel_rfl) (by kernel_rfl) (by kernel_rfl) (fun _ _ _ h => h) (Tame.yes (by kernel_rfl) fun w hS => ?_) ?_
          rotate_left 1
          · skip
            go_simp
            try simp only [h4, hmin, hnn]
            refine gives_mk ?_ hS
            with_reducible rfl
          refine all_take (i := 17) (v := ?_) rfl (by kernel_rfl) (by kernel_rfl) (by kernel_rfl) (fun _ _ _ h => h) (Tame.yes (by kernel_rfl) fun w hS => ?_) ?_
          rotate_left 1
          · skip
            go_simp
            try simp only [h4, hmin, hnn]
            refine gives_mk ?_ hS
            with_reducible rfl
          refine all_take (i := 18) (v := ?_) rfl (by kernel_rfl) (by kernel_rfl) (by kernel_rfl) (fun _ _ _ h => h) (Tame.yes (by kernel_rfl) fun w hS => ?_) ?_
          rotate_left 1
          · skip
            go_simp
            try simp only [h4, hmin, hnn]
            refine gives_mk ?_ hS
            with_reducible rfl
          refine all_take (i := 19) (v := ?_) rfl (by kernel_rfl) (by kernel_rfl) (by kernel_rfl) (fun _ _ _ h => h) (Tame.yes (by kernel_rfl) fun w hS => ?_) ?_
          rotate_left 1
          · skip
            go_simp
            try simp only [h4, hmin, hnn]
            refine gives_mk ?_ hS
            with_reducible rfl
          refine all_take (i := 20) (v := ?_) rfl (by kernel_rfl) (by kernel_rfl) (by kernel_rfl) (fun _ _ _ h => h) (Tame.yes (by kernel_rfl) fun w hS => ?_) ?_
          rotate_left 1
          · skip
            go_simp
            try simp only [h4, hmin, hnn]
            refine gives_mk ?_ hS
            with_reducible rfl
          refine all_take (i := 21) (v := ?_) rfl (by kernel_rfl) (by kernel_rfl) (by kernel_rfl) (fun _ _ _ h => h) (Tame.yes (by kernel_rfl) fun w hS => ?_) ?_
          rotate_left 1
          · skip
            go_simp
            try simp only [h4, hmin, hnn]
            refine gives_mk ?_ hS
            with_reducible rfl
          refine all_take (i := 22) (v := ?_) rfl (by kernel_rfl) (by kernel_rfl) (by kernel_rfl) (fun _ _ _ h => h) (Tame.yes (by kernel_rfl) fun w hS => ?_) ?_
          rotate_left 1
          · skip
            go_simp
            try simp only [h4, hmin, hnn]
            refine gives_mk ?_ hS
            with_reducible rfl
          refine all_take (i := 23) (v := ?_) rfl (by kernel_rfl) (by kernel_rfl) (by kernel_rfl) (fun _ _ _ h => h) (Tame.yes (by kernel_rfl) fun w hS => ?_) ?_
          rotate_left 1
          · skip
            go_simp
            try simp only [h4, hmin, hnn]
            refine gives_mk ?_ hS
            with_reducible rfl
          refine all_done ?_ ?_ _
          · kernel_rfl
          intro w5 hw5
          clear k0 k1 k2 k3 h4 hmin hnn
          go_simp
          first | refine q4 _ _ (Met.intro (q3 _ _ ?_)) | refine Met.intro (q3 _ _ ?_) | refine q3 _ _ ?_
          repeat apply Exists.intro
          refine ⟨?rel, rfl⟩
          case rel => exact ⟨rfl, ((Ext.refl w2).alloc _).trans hw5⟩
        · have hq1 : (q == 0) = false := by simpa using hq
          refine region_all (fun v => Ext w2 v) (by kernel_rfl) ((Ext.refl w2).alloc _).drew ?_
          refine all_take (i := 0) (v := ?_) rfl (by kernel_rfl) (by kernel_rfl) (by kernel_rfl) (fun _ _ _ h => h) (Tame.yes (by kernel_rfl) fun w hS => ?_) ?_
          rotate_left 1
          · skip
            go_simp
            try simp only [hq1]
            refine gives_mk ?_ hS
            with_reducible rfl
          refine all_take (i := 1) (v := ?_) rfl (by kernel_rfl) (by kernel_rfl) (by kernel_rfl) (fun _ _ _ h => h) (Tame.yes (by kernel_rfl) fun w hS => ?_) ?_
          rotate_left 1
          · skip
            go_simp
            try simp only [hq1]
            refine gives_mk ?_ hS
            with_reducible rfl
          refine all_take (i := 2) (v := ?_) rfl (by kernel_rfl) (by kernel_rfl) (by kernel_rfl) (fun _ _ _ h => h) (Tame.yes (by kernel_rfl) fun w hS => ?_) ?_
          rotate_left 1
          · skip
            go_simp
            try simp only [hq1]
            refine gives_mk ?_ hS
            with_reducible rfl
          refine all_take (i := 3) rfl (by kernel_rfl) (by kernel_rfl) (by kernel_rfl) (fun _ _ _ h => h) (Tame.no (by kernel_rfl)) ?_
          refine all_take (i := 4) rfl (by kernel_rfl) (by kernel_rfl) (by kernel_rfl) (fun _ _ _ h => h) (Tame.no (by kernel_rfl)) ?_
          refine all_take (i := 5) rfl (by kernel_rfl) (by kernel_rfl) (by kernel_rfl) (fun _ _ _ h => h) (Tame.no (by kernel_rfl)) ?_
          refine all_take (i := 6) rfl (by kernel_rfl) (by kernel_rfl) (by kernel_rfl) (fun _ _ _ h => h) (Tame.no (by kernel_rfl)) ?_
          refine all_take (i := 7) rfl (by kernel_rfl) (by kernel_rfl) (by kernel_rfl) (fun _ _ _ h => h) (Tame.no (by kernel_rfl)) ?_
          refine all_take (i := 8) rfl (by kernel_rfl) (by kernel_rfl) (by kernel_rfl) (fun _ _ _ h => h) (Tame.no (by kernel_rfl)) ?_
          refine all_take (i := 9) rfl (by kernel_rfl) (by kernel_rfl) (by kernel_rfl) (fun _ _ _ h => h) (Tame.no (by kernel_rfl)) ?_
          refine all_take (i := 10) rfl (by kernel_rfl) (by kernel_rfl) (by kernel_rfl) (fun _ _ _ h => h) (Tame.no (by kernel_rfl)) ?_
          refine all_take (i := 11) rfl (by kernel_rfl) (by kernel_rfl) (by kernel_rfl) (fun _ _ _ h => h) (Tame.no (by kernel_rfl)) ?_
          refine all_take (i := 12) rfl (by kernel_rfl) (by kernel_rfl) (by kernel_rfl) (fun _ _ _ h => h) (Tame.no (by kernel_rfl)) ?_
          refine all_take (i := 13) rfl (by kernel_rfl) (by kernel_rfl) (by kernel_rfl) (fun _ _ _ h => h) (Tame.no (by kernel_rfl)) ?_
          refine all_take (i := 14) rfl (by kernel_rfl) (by kernel_rfl) (by kernel_rfl) (fun _ _ _ h => h) (Tame.no (by kernel_rfl)) ?_
          refine all_take (i := 15) rfl (by kernel_rfl) (by kernel_rfl) (by kernel_rfl) (fun _ _ _ h => h) (Tame.no (by kernel_rfl)) ?_
          refine all_take (i := 16) rfl (by kernel_rfl) (by kernel_rfl) (by kernel_rfl) (fun _ _ _ h => h) (Tame.no (by kernel_rfl)) ?_
          refine all_take (i := 17) rfl (by kernel_rfl) (by kernel_rfl) (by kernel_rfl) (fun _ _ _ h => h) (Tame.no (by kernel_rfl)) ?_
          refine all_take (i := 18) rfl (by kernel_rfl) (by kernel_rfl) (by kernel_rfl) (fun _ _ _ h => h) (Tame.no (by kernel_rfl)) ?_
          refine all_take (i := 19) rfl (by kernel_rfl) (by kernel_rfl) (by kernel_rfl) (fun _ _ _ h => h) (Tame.no (by kernel_rfl)) ?_
          refine all_take (i := 20) rfl (by kernel_rfl) (by kernel_rfl) (by kernel_rfl) (fun _ _ _ h => h) (Tame.no (by kernel_rfl)) ?_
          refine all_take (i := 21) rfl (by kernel_rfl) (by kernel_rfl) (by kernel_rfl) (fun _ _ _ h => h) (Tame.no (by kernel_rfl)) ?_
          refine all_take (i := 22) rfl (by kernel_rfl) (by kernel_rfl) (by kernel_rfl) (fun _ _ _ h => h) (Tame.no (by kernel_rfl)) ?_
          refine all_take (i := 23) (v := ?_) rfl (by kernel_rfl) (by kernel_rfl) (by kernel_rfl) (fun _ _ _ h => h) (Tame.yes (by kernel_rfl) fun w hS => ?_) ?_
          rotate_left 1
          · skip
            go_simp
            try simp only [hq1]
            refine gives_mk ?_ hS
            with_reducible rfl
          refine all_done ?_ ?_ _
          · kernel_rfl
          intro w5 hw5
          clear hq1
          go_simp
          first | refine q4 _ _ (Met.intro (q3 _ _ ?_)) | refine Met.intro (q3 _ _ ?_) | refine q3 _ _ ?_
          repeat apply Exists.intro
          refine ⟨?rel, rfl⟩
          case rel => exact ⟨rfl, hw5⟩
      case rest =>
        obtain ⟨rfl, hx5⟩ := hcut
        have HX5 := Lib.hid (HX2.out.trans hx5)
        clear hx5 HX2 HP
        obtain ⟨a0, a1, a2, a3⟩ := HA.out _ HX5.out
        cases hma : Bt.may ⟨g, st, ba, bo⟩ with
        | false =>
          have HMA := Lib.hid hma
          clear hma
          go_wp2_with fail
          refine (bmay_eq g st ba bo false HMA.out _).mono ?_
          rintro r w6 ⟨rfl, hx6⟩
          go_wp2
          go_ret
          exact ⟨rfl, HX.out.trans (HX5.out.trans hx6)⟩
        | true =>
          have HMA := Lib.hid hma
          have HFA := Lib.hid (fun (k : Nat) => Bt.dec_cutP (k := k) hma)
          have hza := Bt.enc_isnil hma
          have hzl := Bt.enc_size hma
          have hzm := Bt.encL_le hma
          simp only at hzm
          cases hmb : Bt.may ⟨g', st', ba', bo'⟩ with
          | false =>
            have HMB := Lib.hid hmb
            clear hma hmb
            go_wp2_with fail
            refine (bmay_eq g st ba bo true HMA.out _).mono ?_
            rintro r w6 ⟨rfl, hx6⟩
            obtain ⟨b0, b1, b2, b3⟩ := HB.out _ (HX5.out.trans hx6)
            go_wp2_with fail
            refine (bmay_eq g' st' ba' bo' false HMB.out _).mono ?_
            rintro r w7 ⟨rfl, hx7⟩
            go_wp2
            go_ret
            exact ⟨rfl, HX.out.trans ((HX5.out.trans hx6).trans hx7)⟩
          | true =>
            have HMB := Lib.hid hmb
            have HTW := Lib.hid (Bt.dec_two hma hmb)
            have hzl' := Bt.enc_size hmb
            have hzm' := Bt.encL_le hmb
            simp only at hzm'
            clear hma hmb
            generalize hea : Bt.enc ⟨g, st, ba, bo⟩ = ea at *
            generalize heb : Bt.enc ⟨g', st', ba', bo'⟩ = eb at *
            have HEA := Lib.hid hea
            have HEB := Lib.hid heb
            have hsa : ea.size ≤ 4000 := by omega
            have hsb : eb.size ≤ 4000 := by omega
            clear hea heb hzl hzm hzl' hzm'
            go_wp2_with fail
            refine (bmay_eq g st ba bo true HMA.out _).mono ?_
            rintro r w6 ⟨rfl, hx6⟩
            have HX6 := Lib.hid (HX5.out.trans hx6)
            clear hx6 a0 a1 a2 a3
            obtain ⟨b0, b1, b2, b3⟩ := HB.out _ HX6.out
            go_wp2_with fail
            refine (bmay_eq g' st' ba' bo' true HMB.out _).mono ?_
            rintro r w7 ⟨rfl, hx7⟩
            have HX7 := Lib.hid (HX6.out.trans hx7)
            clear hx7 b0 b1 b2 b3
            obtain ⟨a0, a1, a2, a3⟩ := HA.out _ HX7.out
            go_wp2_with fail
            refine (benc_eq g st ba bo ea HEA.out _).mono ?_
            rintro r w8 ⟨rfl, hx8⟩
            have HX8 := Lib.hid (HX7.out.trans hx8)
            clear hx8 a0 a1 a2 a3
            obtain ⟨b0, b1, b2, b3⟩ := HB.out _ HX8.out
            go_wp2_with fail
            refine (benc_eq g' st' ba' bo' eb HEB.out _).mono ?_
            rintro r w9 ⟨rfl, hx9⟩
            have HX9 := Lib.hid (HX8.out.trans hx9)
            clear hx9 b0 b1 b2 b3
            go_wp2_with fail
            refine (bdecode_eq _ _ rfl 0 g st ba bo _ 0 HTW.out.1 _ (by unfold maxLen; rw [ByteArray.size_append]; omega)).mono ?_
            rintro r w10 ⟨rfl, hx10⟩
            have HX10 := Lib.hid (HX9.out.trans (hx10.alloc (.cells #[.int .i64 g, .int .i64 st, .int .i64 ba, .string bo] 23)))
            clear hx10
            obtain ⟨b0, b1, b2, b3⟩ := HB.out _ HX10.out
            go_wp2_with fail
            refine (benc_eq g' st' ba' bo' eb HEB.out _).mono ?_
            rintro r w11 ⟨rfl, hx11⟩
            have HX11 := Lib.hid (HX10.out.trans hx11)
            have HD11 := Lib.hid hx11
            clear hx11 b0 b1 b2 b3
            go_wp2_with fail
            refine (bdecode_eq _ _ rfl (ea.size : Int) g' st' ba' bo' _ 0 HTW.out.2 _ (by unfold maxLen; rw [ByteArray.size_append]; omega)).mono ?_
            rintro r w12 ⟨rfl, hx12⟩
            have HX12 := Lib.hid (HX11.out.trans (hx12.alloc (.cells #[.int .i64 g', .int .i64 st', .int .i64 ba', .string bo'] 23)))
            have HD12 : Hid (Ext (w10.alloc (.cells #[.int .i64 g, .int .i64 st, .int .i64 ba, .string bo] 23)) (w12.alloc (.cells #[.int .i64 g', .int .i64 st', .int .i64 ba', .string bo'] 23))) := Lib.hid (HD11.out.trans (hx12.alloc _))
            clear hx12 HD11
            obtain ⟨a0, a1, a2, a3⟩ := HA.out _ HX12.out
            obtain ⟨b0, b1, b2, b3⟩ := HB.out _ HX12.out
            have c0 := Ext.box HD12.out 0 (.int .i64 g) rfl
            have c1 := Ext.box HD12.out 1 (.int .i64 st) rfl
            have c2 := Ext.box HD12.out 2 (.int .i64 ba) rfl
            have c3 := Ext.box HD12.out 3 (.string bo) rfl
            go_wp2_with fail
            refine (benc_eq g' st' ba' bo' eb HEB.out _).mono ?_
            rintro r w13 ⟨rfl, hx13⟩
            have HX13 := Lib.hid (HX12.out.trans hx13)
            clear hx13 a0 a1 a2 a3 b0 b1 b2 b3 c0 c1 c2 c3
            rcases HCT.out with hneg | ⟨k, rfl⟩
            · go_wp2
              go_ret
              exact ⟨rfl, HX.out.trans HX13.out⟩
            · by_cases hk : k < ea.size
              · skip
                go_wp2_with fail
                refine (bdecode_eq _ _ rfl 0 _ _ _ _ _ _ (HFA.out k hk) _ (by unfold maxLen; simp; omega)).mono ?_
                rintro r w14 ⟨rfl, hx14⟩
                go_wp2
                go_ret
                exact ⟨rfl, HX.out.trans (HX13.out.trans (hx14.alloc _))⟩
              · have hk' : ea.size ≤ k := by omega
                clear hk
                go_wp2
                go_ret
                exact ⟨rfl, HX.out.trans HX13.out⟩
    · have ho' : 3000 < bo.size ∨ 3000 < bo'.size ∨ 5000 < s.size := by omega
      clear ho
      rcases (by omega : 3000 < bo.size ∨ (bo.size ≤ 3000 ∧ 3000 < bo'.size) ∨ (bo.size ≤ 3000 ∧ bo'.size ≤ 3000 ∧ 5000 < s.size)) with h1 | ⟨h1, h2⟩ | ⟨h1, h2, h3⟩
      all_goals
        clear ho'
        go_wp2_with fail
        refine (bfixed_yes _).mono ?_
        rintro r w2 ⟨rfl, hx2⟩
        go_wp2
        go_ret
        exact ⟨rfl, HX.out.trans (HX1.out.trans hx2)⟩
theorem walk_BatchBack (a b : Bt) (s : ByteArray) (cut : Int) (w : World) (ha : BtIn a) (hb : BtIn b) (hs : s.size ≤ maxLen) (_ : (Lit.int .i64 cut).wf = true) :
    Calls Try.prog 4 #[.agg #[.int .i64 a.gen, .int .i64 a.stream, .int .i64 a.base, .string a.body, .int .i64 b.gen, .int .i64 b.stream, .int .i64 b.base, .string b.body], .string s, .int .i64 cut] w fun e w' => e = .returned (.bool true) ∧ Ext w w' := by
  obtain ⟨g, st, ba, bo⟩ := a
  obtain ⟨g', st', ba', bo'⟩ := b
  refine bback_all g st ba bo g' st' ba' bo' s cut w ha.1 hb.1 hs ?_
  by_cases hc : cut < 0
  · exact .inl hc
  · exact .inr ⟨cut.toNat, by omega⟩

end Go.Proofs.Ytlbhpgieehallaa
