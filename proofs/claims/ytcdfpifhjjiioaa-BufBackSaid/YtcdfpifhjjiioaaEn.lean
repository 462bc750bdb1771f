/-
  The contract of the document's Encode, of events of kinds that are known; and in all.
-/
import Derived.Test.YtcdfpifhjjiioaaEm
set_option linter.unusedVariables false
set_option linter.unusedSimpArgs false
namespace Go.Proofs.Ytcdfpifhjjiioaa
open Go.RowKit

theorem Wi.nums_size (xs : List Int) : (Wi.nums xs).size ≤ 9 * xs.length := by
  by_cases h : ∀ x ∈ xs, Wi.ok x
  · unfold Wi.nums
    rw [Wi.numsL_ok xs h]
    simp only [size_mk]
    exact Wi.cat_len xs h
  · unfold Wi.nums
    rw [Wi.numsL_no xs (by simpa using h)]
    exact Nat.zero_le _
set_option maxRecDepth 100000 in
set_option maxHeartbeats 1000000 in
theorem renc_k (A : Option Addr) (c : Nat) (k d : Int) (xs : List Int) (t : ByteArray) (w : World) (hI : IntsAt w (.slice A xs.length c) xs) (hn : xs.length ≤ 1000) (hm : Ev.may ⟨k, d, xs, t⟩ = true) (hx : Ki.exp k = false) :
    Calls Try.prog 22 #[.agg #[.int .i64 k, .int .i64 d, .slice A xs.length c, .string t]] w fun r w' => r = .returned (.string (Ev.enc ⟨k, d, xs, t⟩)) ∧ Ext w w' := by
  have HI := Lib.hid hI; clear hI
  have HM := Lib.hid hm
  obtain ⟨hk0, hk1⟩ := Ev.kind_le hm
  simp only at hk0 hk1
  have HPZ := Lib.hid (Ev.enc_pz hm)
  have HE := Lib.hid (Ev.renc_known hm hx)
  have HNS : Hid ((Wi.nums xs).size ≤ 9000) := Lib.hid (by have := Wi.nums_size xs; omega)
  have HX := Lib.hid hx
  clear hm hx
  go_enter Try.func22, Try.ntmps22
  go_wp2_with fail
  refine (rmay_b _ ⟨k, d, xs, t⟩ true HM.out _ ⟨A, c, rfl, HI.out.ext ((Ext.refl _).alloc _)⟩ (by simp; omega)).mono ?_
  rintro r w1 ⟨rfl, hx1⟩
  have HX1 := Lib.hid hx1
  clear hx1
  go_wp2
  have K2 := fun v (hv : Ext w1 v) => Ext.box (HX1.out.trans hv) 2 (.slice A xs.length c) rfl
  have K3 := fun v (hv : Ext w1 v) => Ext.box (HX1.out.trans hv) 3 (.string t) rfl
  have h99 : (9223372036854775807 < 1 + (Va.pz d).size) = False := by have := pz_nine d; simp; omega
  have K0 := fun v (hv : Ext w1 v) => Ext.box (HX1.out.trans hv) 0 (.int .i64 k) rfl
  have K1 := fun v (hv : Ext w1 v) => Ext.box (HX1.out.trans hv) 1 (.int .i64 d) rfl
  replace K0 : ∀ v, Ext w1 v → v.cell? ⟨w.heap.size, 0, none⟩ = some (.int .i64 k) := K0
  replace K1 : ∀ v, Ext w1 v → v.cell? ⟨w.heap.size, 1, none⟩ = some (.int .i64 d) := K1
  refine region_g 99 (fun v => Ext w1 v) (fun v => Ext w1 v) (by kernel_rfl) (Ext.refl w1).drew ?_
  have HG : ∀ (l : Array Bool) v, Ext w1 v → l.getD 99 false = false → Ext w1 v := fun _ _ h _ => h
  have hcv : IntKind.u8.wrap k = k := by unfold IntKind.wrap; simp [IntKind.bits, IntKind.signed]; omega
  refine g_take (HG _) (i := 0) (v := ?_) rfl (by kernel_rfl) (by kernel_rfl) (by kernel_rfl) (by kernel_rfl) (by kernel_rfl) (fun _ _ _ h => h) (Still.yes (by kernel_rfl) fun w hS => ?_) ?_
  rotate_left 1
  · skip
    go_simp
    refine gives_mk ?_ rfl
    with_reducible rfl
  refine g_take (HG _) (i := 1) (v := ?_) rfl (by kernel_rfl) (by kernel_rfl) (by kernel_rfl) (by kernel_rfl) (by kernel_rfl) (fun _ _ _ h => h) (Still.yes (by kernel_rfl) fun w hS => ?_) ?_
  rotate_left 1
  · skip
    go_simp
    refine gives_mk ?_ rfl
    with_reducible rfl
  refine g_free (HG _) (i := 2) (v := ?_) rfl (by kernel_rfl) (by kernel_rfl) (by kernel_rfl) (by kernel_rfl) (fun _ _ _ h => h) (Still.yes (by kernel_rfl) fun w hS => ?_) ?_
  rotate_left 1
  · skip
    go_simp
    try simp only [hcv]
    refine gives_mk ?_ rfl
    with_reducible rfl
  refine g_take (HG _) (i := 5) (v := ?_) rfl (by kernel_rfl) (by kernel_rfl) (by kernel_rfl) (by kernel_rfl) (by kernel_rfl) (fun _ _ _ h => h) (Still.yes (by kernel_rfl) fun w hS => ?_) ?_
  rotate_left 1
  · skip
    go_simp
    refine gives_mk ?_ rfl
    with_reducible rfl
  refine g_take (HG _) (i := 6) (v := ?_) rfl (by kernel_rfl) (by kernel_rfl) (by kernel_rfl) (by kernel_rfl) (by kernel_rfl) (fun _ _ _ h => h) (Still.yes (by kernel_rfl) fun w hS => ?_) ?_
  rotate_left 1
  · skip
    go_simp
    refine gives_mk ?_ rfl
    with_reducible rfl
  refine g_two (Byte1 w1 k) (PutT w1 d) (k := 3) (l := 7) (by kernel_rfl) (fun _ _ h _ => h.x) (fun _ _ h _ => h.2) (fun v hv => ?_) (fun v hv => ?_)
  · refine at_value rfl (by kernel_rfl) (by go_simp; exact ⟨_, _, ⟨rfl, rfl⟩, v.heap.size, rfl, blk_new _ _, hv.alloc _⟩) ?_
    rintro u ⟨_, b, rfl, _⟩
    refine g_two (ConT w1 k) (PutB w1 d k (.slice (some ⟨b, 0, none⟩) 1 1)) (k := 4) (l := 7) (by kernel_rfl) (fun _ _ h _ => h.2) (fun _ _ h _ => h.2.x) (fun v hv => ?_) (fun v hv => ?_)
    · obtain ⟨b', hb', hbk, hvx⟩ := hv
      simp only [Value.slice.injEq, Option.some.injEq, Addr.mk.injEq, and_true] at hb'
      subst hb'
      have hr := run_byte1 v b k hk0 hk1 hbk
      refine at_value rfl (by kernel_rfl) (by go_simp; exact ⟨_, _, ⟨rfl, rfl⟩, rfl, hvx⟩) ?_
      clear hr
      rintro u ⟨_, rfl, _⟩
      refine g_turn (PutT w1 d) (k := 7) (by kernel_rfl) (fun _ _ h _ => h.2) (fun v hv => ?_)
      refine at_call (S := fun _ => True) rfl (by kernel_rfl) (by go_simp; (try exact ⟨rfl, rfl⟩)) (put_T w1 d v hv.2) ?_
      rintro u ⟨_, rfl, _⟩
      have HG : ∀ (l : Array Bool) v, PutT w1 d (.string (Va.pz d)) v → l.getD 99 false = false → Ext w1 v := fun _ _ h _ => h.2
      refine g_free (HG _) (i := 8) (v := ?_) rfl (by kernel_rfl) (by kernel_rfl) (by kernel_rfl) (by kernel_rfl) (fun _ _ _ h => h) (Still.yes (by kernel_rfl) fun w hS => ?_) ?_
      rotate_left 1
      · skip
        go_simp
        try simp only [h99, if_false]
        refine gives_mk ?_ rfl
        with_reducible rfl
      refine g_free (HG _) (i := 9) (v := ?_) rfl (by kernel_rfl) (by kernel_rfl) (by kernel_rfl) (by kernel_rfl) (fun _ _ _ h => h) (Still.yes (by kernel_rfl) fun w hS => ?_) ?_
      rotate_left 1
      · skip
        go_simp
        try simp only [h99, if_false]
        refine gives_mk ?_ rfl
        with_reducible rfl
      refine g_done (by kernel_rfl) ?_ _
      intro v hv
      have c0 := K0 v hv.2
      have c3 := K3 v hv.2
      have c2 := K2 v hv.2
      have HV := Lib.hid hv.2
      clear K0 K1 K2 K3 hv
      go_simp
      have h9 := pz_nine d
      have h8 : (Wi.nums xs).size ≤ 9000 := HNS.out
      clear h99
      go_wp2_with fail
      refine (rexp_eq k false HX.out _).mono ?_
      rintro r w5 ⟨rfl, rfl⟩
      go_wp2_with fail
      refine (rnums_any _ xs _ (HI.out.ext ((((Ext.refl w).alloc _).trans HX1.out).trans HV.out)) (by omega)).mono ?_
      rintro r w5 ⟨rfl, hx5⟩
      go_wp2
      go_ret
      exact ⟨by rw [← HE.out, ← HPZ.out]; rfl, (((Ext.refl w).alloc _).trans HX1.out).trans (HV.out.trans hx5)⟩
    · refine at_call (S := fun _ => True) rfl (by kernel_rfl) (by go_simp; (try exact ⟨rfl, rfl⟩)) (put_B w1 d k _ v hv) ?_
      rintro u ⟨_, rfl, _⟩
      refine g_turn (ConT w1 k) (k := 4) (by kernel_rfl) (fun _ _ h _ => h.2) (fun v hv => ?_)
      obtain ⟨_, b', hb', hbk, hvx⟩ := hv
      simp only [Value.slice.injEq, Option.some.injEq, Addr.mk.injEq, and_true] at hb'
      subst hb'
      have hr := run_byte1 v b k hk0 hk1 hbk
      refine at_value rfl (by kernel_rfl) (by go_simp; exact ⟨_, _, ⟨rfl, rfl⟩, rfl, hvx⟩) ?_
      clear hr
      rintro u ⟨_, rfl, _⟩
      have HG : ∀ (l : Array Bool) v, ConT w1 k (.string ⟨#[UInt8.ofNat k.toNat]⟩) v → l.getD 99 false = false → Ext w1 v := fun _ _ h _ => h.2
      refine g_free (HG _) (i := 8) (v := ?_) rfl (by kernel_rfl) (by kernel_rfl) (by kernel_rfl) (by kernel_rfl) (fun _ _ _ h => h) (Still.yes (by kernel_rfl) fun w hS => ?_) ?_
      rotate_left 1
      · skip
        go_simp
        try simp only [h99, if_false]
        refine gives_mk ?_ rfl
        with_reducible rfl
      refine g_free (HG _) (i := 9) (v := ?_) rfl (by kernel_rfl) (by kernel_rfl) (by kernel_rfl) (by kernel_rfl) (fun _ _ _ h => h) (Still.yes (by kernel_rfl) fun w hS => ?_) ?_
      rotate_left 1
      · skip
        go_simp
        try simp only [h99, if_false]
        refine gives_mk ?_ rfl
        with_reducible rfl
      refine g_done (by kernel_rfl) ?_ _
      intro v hv
      have c0 := K0 v hv.2
      have c3 := K3 v hv.2
      have c2 := K2 v hv.2
      have HV := Lib.hid hv.2
      clear K0 K1 K2 K3 hv
      go_simp
      have h9 := pz_nine d
      have h8 : (Wi.nums xs).size ≤ 9000 := HNS.out
      clear h99
      go_wp2_with fail
      refine (rexp_eq k false HX.out _).mono ?_
      rintro r w5 ⟨rfl, rfl⟩
      go_wp2_with fail
      refine (rnums_any _ xs _ (HI.out.ext ((((Ext.refl w).alloc _).trans HX1.out).trans HV.out)) (by omega)).mono ?_
      rintro r w5 ⟨rfl, hx5⟩
      go_wp2
      go_ret
      exact ⟨by rw [← HE.out, ← HPZ.out]; rfl, (((Ext.refl w).alloc _).trans HX1.out).trans (HV.out.trans hx5)⟩
  · refine at_call (S := fun _ => True) rfl (by kernel_rfl) (by go_simp; (try exact ⟨rfl, rfl⟩)) (put_T w1 d v hv) ?_
    rintro u ⟨_, rfl, _⟩
    refine g_turn (Byte1 w1 k) (k := 3) (by kernel_rfl) (fun _ _ h _ => h.x) (fun v hv => ?_)
    refine at_value rfl (by kernel_rfl) (by go_simp; exact ⟨_, _, ⟨rfl, rfl⟩, v.heap.size, rfl, blk_new _ _, hv.2.alloc _⟩) ?_
    rintro u ⟨_, b, rfl, _⟩
    refine g_turn (ConT w1 k) (k := 4) (by kernel_rfl) (fun _ _ h _ => h.2) (fun v hv => ?_)
    obtain ⟨b', hb', hbk, hvx⟩ := hv
    simp only [Value.slice.injEq, Option.some.injEq, Addr.mk.injEq, and_true] at hb'
    subst hb'
    have hr := run_byte1 v b k hk0 hk1 hbk
    refine at_value rfl (by kernel_rfl) (by go_simp; exact ⟨_, _, ⟨rfl, rfl⟩, rfl, hvx⟩) ?_
    clear hr
    rintro u ⟨_, rfl, _⟩
    have HG : ∀ (l : Array Bool) v, ConT w1 k (.string ⟨#[UInt8.ofNat k.toNat]⟩) v → l.getD 99 false = false → Ext w1 v := fun _ _ h _ => h.2
    refine g_free (HG _) (i := 8) (v := ?_) rfl (by kernel_rfl) (by kernel_rfl) (by kernel_rfl) (by kernel_rfl) (fun _ _ _ h => h) (Still.yes (by kernel_rfl) fun w hS => ?_) ?_
    rotate_left 1
    · skip
      go_simp
      try simp only [h99, if_false]
      refine gives_mk ?_ rfl
      with_reducible rfl
    refine g_free (HG _) (i := 9) (v := ?_) rfl (by kernel_rfl) (by kernel_rfl) (by kernel_rfl) (by kernel_rfl) (fun _ _ _ h => h) (Still.yes (by kernel_rfl) fun w hS => ?_) ?_
    rotate_left 1
    · skip
      go_simp
      try simp only [h99, if_false]
      refine gives_mk ?_ rfl
      with_reducible rfl
    refine g_done (by kernel_rfl) ?_ _
    intro v hv
    have c0 := K0 v hv.2
    have c3 := K3 v hv.2
    have c2 := K2 v hv.2
    have HV := Lib.hid hv.2
    clear K0 K1 K2 K3 hv
    go_simp
    have h9 := pz_nine d
    have h8 : (Wi.nums xs).size ≤ 9000 := HNS.out
    clear h99
    go_wp2_with fail
    refine (rexp_eq k false HX.out _).mono ?_
    rintro r w5 ⟨rfl, rfl⟩
    go_wp2_with fail
    refine (rnums_any _ xs _ (HI.out.ext ((((Ext.refl w).alloc _).trans HX1.out).trans HV.out)) (by omega)).mono ?_
    rintro r w5 ⟨rfl, hx5⟩
    go_wp2
    go_ret
    exact ⟨by rw [← HE.out, ← HPZ.out]; rfl, (((Ext.refl w).alloc _).trans HX1.out).trans (HV.out.trans hx5)⟩
set_option maxRecDepth 100000 in
set_option maxHeartbeats 1000000 in
theorem renc_e (v : Value) (e : Ev) (w : World) (h : EvAt w v e) (hn : e.args.length ≤ 1000) (ht : e.text.size ≤ 1000000) :
    Calls Try.prog 22 #[v] w fun r w' => r = .returned (.string e.enc) ∧ Ext w w' := by
  obtain ⟨A, c, rfl, hI⟩ := h
  obtain ⟨k, d, xs, t⟩ := e
  simp only at *
  have HI := Lib.hid hI; clear hI
  cases hm : Ev.may ⟨k, d, xs, t⟩ with
  | false =>
    have HM := Lib.hid hm
    have HE : Hid (Ev.enc ⟨k, d, xs, t⟩ = ⟨#[]⟩) := Lib.hid (by unfold Ev.enc; rw [hm]; simp)
    clear hm
    go_enter Try.func22, Try.ntmps22
    go_wp2_with (go_at_call 21; refine (rmay_b _ ⟨k, d, xs, t⟩ false HM.out _ ⟨A, c, rfl, HI.out.ext ((Ext.refl _).alloc _)⟩ (by simp; omega)).mono ?_; rintro r w1 ⟨rfl, hx1⟩)
    go_ret
    exact ⟨by rw [HE.out]; rfl, ((Ext.refl _).alloc _).trans hx1⟩
  | true =>
    cases hx : Ki.exp k with
    | true => exact renc_x A c k d xs t w HI.out hn ht hm hx
    | false => exact renc_k A c k d xs t w HI.out hn hm hx

end Go.Proofs.Ytcdfpifhjjiioaa
