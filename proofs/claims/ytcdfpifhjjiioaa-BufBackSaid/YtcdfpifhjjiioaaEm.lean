/-
  The contract of the document's Encode, of events.
-/
import Derived.Test.YtcdfpifhjjiioaaEl
import Derived.Test.YtcdfpifhjjiioaaRq
set_option linter.unusedVariables false
set_option linter.unusedSimpArgs false
namespace Go.Proofs.Ytcdfpifhjjiioaa
open Go.RowKit

theorem rmay_b (v : Value) (e : Ev) (b : Bool) (hb : e.may = b) (w : World) (h : EvAt w v e) (hn : e.args.length ≤ 1000000) :
    Calls Try.prog 21 #[v] w fun r w' => r = .returned (.bool b) ∧ Ext w w' := by subst hb; exact rmay_e v e w h hn
/-- A slice of one byte, in a block of its own; what was there is as it was. -/
def Byte1 (W : World) (k : Int) (u : Value) (v : World) : Prop := ∃ b, u = .slice (some ⟨b, 0, none⟩) 1 1 ∧ v.heap[b]? = some (.cells #[.int .u8 k] 5 (0, 0)) ∧ Ext W v
theorem run_byte1 (w : World) (b : Nat) (k : Int) (h0 : 0 ≤ k) (h1 : k ≤ 255) (h : w.heap[b]? = some (.cells #[.int .u8 k] 5 (0, 0))) :
    (convert 56 9 (.slice (some ⟨b, 0, none⟩) 1 1)).run Try.prog w = .ok (.string ⟨#[UInt8.ofNat k.toNat]⟩) w := by
  refine run_convert_bytes_back w 56 9 5 ⟨b, 0, none⟩ 1 [UInt8.ofNat k.toNat] Try.underlying56 Try.underlying5 Try.underlying9 fun j hj => ?_
  have : j = 0 := by simpa using hj
  subst this
  rw [Addr.add_lit, blk_cell h 0 (.int .u8 k) rfl]
  simp
  omega
theorem Ev.enc_pz {k d : Int} {xs : List Int} {t : ByteArray} (hm : Ev.may ⟨k, d, xs, t⟩ = true) : Va.pz d = Va.puts d.toNat := by
  have h := Ev.ok_wi.1 (Ev.may_dt hm)
  unfold Wi.ok at h
  unfold Va.pz
  rw [if_pos h]
theorem Ev.renc_exp {k d : Int} {t : ByteArray} (hm : Ev.may ⟨k, d, [], t⟩ = true) (hx : Ki.exp k = true) : (⟨#[UInt8.ofNat k.toNat]⟩ : ByteArray) ++ Va.puts d.toNat ++ (Va.puts t.size ++ t) = Ev.enc ⟨k, d, [], t⟩ := by
  rw [← Ev.enc_exp hm hx]
  apply ByteArray.ext
  apply Array.toList_inj.1
  simp
theorem Ev.renc_known {k d : Int} {xs : List Int} {t : ByteArray} (hm : Ev.may ⟨k, d, xs, t⟩ = true) (hx : Ki.exp k = false) : (⟨#[UInt8.ofNat k.toNat]⟩ : ByteArray) ++ Va.puts d.toNat ++ Wi.nums xs = Ev.enc ⟨k, d, xs, t⟩ := by
  have ho := (Ev.may_no hm (by rw [hx]; simp)).2.2.1
  unfold Wi.nums
  rw [Wi.numsL_ok xs (fun x hx => Ev.ok_wi.1 (ho x hx)), ← Ev.enc_known hm hx]
  apply ByteArray.ext
  apply Array.toList_inj.1
  simp
theorem Byte1.x {W : World} {k : Int} {u : Value} {v : World} (h : Byte1 W k u v) : Ext W v := by obtain ⟨_, _, _, h⟩ := h; exact h
def PutT (W : World) (d : Int) (u : Value) (v : World) : Prop := u = .string (Va.pz d) ∧ Ext W v
def PutB (W : World) (d k : Int) (x : Value) (u : Value) (v : World) : Prop := u = .string (Va.pz d) ∧ Byte1 W k x v
def ConT (W : World) (k : Int) (u : Value) (v : World) : Prop := u = .string ⟨#[UInt8.ofNat k.toNat]⟩ ∧ Ext W v
theorem put_T (W : World) (d : Int) (v : World) (h : Ext W v) : Calls Try.prog 39 #[.int .i64 d] v fun e w' => ∃ u, e = .returned u ∧ PutT W d u w' :=
  (rput_any d v).mono fun _ _ ⟨he, hx⟩ => ⟨_, he, rfl, h.trans hx⟩
theorem Byte1.ext {W : World} {k : Int} {u : Value} {v v' : World} (h : Byte1 W k u v) (hx : Ext v v') : Byte1 W k u v' := by
  obtain ⟨b, h1, h2, h3⟩ := h
  exact ⟨b, h1, hx.blk h2, h3.trans hx⟩
theorem put_B (W : World) (d k : Int) (x : Value) (v : World) (h : Byte1 W k x v) : Calls Try.prog 39 #[.int .i64 d] v fun e w' => ∃ u, e = .returned u ∧ PutB W d k x u w' :=
  (rput_any d v).mono fun _ _ ⟨he, hx⟩ => ⟨_, he, rfl, h.ext hx⟩
set_option maxRecDepth 100000 in
set_option maxHeartbeats 1000000 in
theorem renc_x (A : Option Addr) (c : Nat) (k d : Int) (xs : List Int) (t : ByteArray) (w : World) (hI : IntsAt w (.slice A xs.length c) xs) (hn : xs.length ≤ 1000) (ht : t.size ≤ 1000000) (hm : Ev.may ⟨k, d, xs, t⟩ = true) (hx : Ki.exp k = true) :
    Calls Try.prog 22 #[.agg #[.int .i64 k, .int .i64 d, .slice A xs.length c, .string t]] w fun r w' => r = .returned (.string (Ev.enc ⟨k, d, xs, t⟩)) ∧ Ext w w' := by
  have HI := Lib.hid hI; clear hI
  have HM := Lib.hid hm
  obtain ⟨hk0, hk1⟩ := Ev.kind_le hm
  simp only at hk0 hk1
  have HPZ := Lib.hid (Ev.enc_pz hm)
  obtain rfl : xs = [] := Ev.may_exp hm hx
  have HE := Lib.hid (Ev.renc_exp hm hx)
  have HX := Lib.hid hx
  clear hm hx
  go_enter Try.func22, Try.ntmps22
  go_wp2_with fail
  refine (rmay_b _ ⟨k, d, [], t⟩ true HM.out _ ⟨A, c, rfl, HI.out.ext ((Ext.refl _).alloc _)⟩ (by simp)).mono ?_
  rintro r w1 ⟨rfl, hx1⟩
  have HX1 := Lib.hid hx1
  clear hx1
  go_wp2
  have K2 := fun v (hv : Ext w1 v) => Ext.box (HX1.out.trans hv) 2 (.slice A 0 c) rfl
  have K3 := fun v (hv : Ext w1 v) => Ext.box (HX1.out.trans hv) 3 (.string t) rfl
  have h99 : (9223372036854775807 < 1 + (Va.pz d).size) = False := by have := pz_nine d; simp; omega
  have K0 := fun v (hv : Ext w1 v) => Ext.box (HX1.out.trans hv) 0 (.int .i64 k) rfl
  have K1 := fun v (hv : Ext w1 v) => Ext.box (HX1.out.trans hv) 1 (.int .i64 d) rfl
  replace K0 : ∀ v, Ext w1 v → v.cell? ⟨w.heap.size, 0, none⟩ = some (.int .i64 k) := K0
  replace K1 : ∀ v, Ext w1 v → v.cell? ⟨w.heap.size, 1, none⟩ = some (.int .i64 d) := K1
  refine region_g 99 (fun v => Ext w1 v) (fun v => Ext w1 v) (by kernel_rfl) (Ext.refl w1).drew ?_
  have HG : ∀ (l : Array Bool) v, Ext w1 v → l.getD 99 false = false → Ext w1 v := fun _ _ h _ => h
  have hcv : IntKind.u8.wrap k = k := by unfold IntKind.wrap; simp [IntKind.bits, IntKind.signed]; omega
  refine g_take (HG _) (i := 0) (v := ?_) rfl (by kernel_rfl) (by kernel_rfl) (by kernel_rfl) (by kernel_rfl) (by kernel_rfl) (fun _ _ _ h => h) (Still.yes (by kernel_rfl) fun w hS => ?_) ?_
  rotate_left 1
  · skip
    go_simp
    refine gives_mk ?_ rfl
    with_reducible rfl
  refine g_take (HG _) (i := 1) (v := ?_) rfl (by kernel_rfl) (by kernel_rfl) (by kernel_rfl) (by kernel_rfl) (by kernel_rfl) (fun _ _ _ h => h) (Still.yes (by kernel_rfl) fun w hS => ?_) ?_
  rotate_left 1
  · skip
    go_simp
    refine gives_mk ?_ rfl
    with_reducible rfl
  refine g_free (HG _) (i := 2) (v := ?_) rfl (by kernel_rfl) (by kernel_rfl) (by kernel_rfl) (by kernel_rfl) (fun _ _ _ h => h) (Still.yes (by kernel_rfl) fun w hS => ?_) ?_
  rotate_left 1
  · skip
    go_simp
    try simp only [hcv]
    refine gives_mk ?_ rfl
    with_reducible rfl
  refine g_take (HG _) (i := 5) (v := ?_) rfl (by kernel_rfl) (by kernel_rfl) (by kernel_rfl) (by kernel_rfl) (by kernel_rfl) (fun _ _ _ h => h) (Still.yes (by kernel_rfl) fun w hS => ?_) ?_
  rotate_left 1
  · skip
    go_simp
    refine gives_mk ?_ rfl
    with_reducible rfl
  refine g_take (HG _) (i := 6) (v := ?_) rfl (by kernel_rfl) (by kernel_rfl) (by kernel_rfl) (by kernel_rfl) (by kernel_rfl) (fun _ _ _ h => h) (Still.yes (by kernel_rfl) fun w hS => ?_) ?_
  rotate_left 1
  · skip
    go_simp
    refine gives_mk ?_ rfl
    with_reducible rfl
  refine g_two (Byte1 w1 k) (PutT w1 d) (k := 3) (l := 7) (by kernel_rfl) (fun _ _ h _ => h.x) (fun _ _ h _ => h.2) (fun v hv => ?_) (fun v hv => ?_)
  · refine at_value rfl (by kernel_rfl) (by go_simp; exact ⟨_, _, ⟨rfl, rfl⟩, v.heap.size, rfl, blk_new _ _, hv.alloc _⟩) ?_
    rintro u ⟨_, b, rfl, _⟩
    refine g_two (ConT w1 k) (PutB w1 d k (.slice (some ⟨b, 0, none⟩) 1 1)) (k := 4) (l := 7) (by kernel_rfl) (fun _ _ h _ => h.2) (fun _ _ h _ => h.2.x) (fun v hv => ?_) (fun v hv => ?_)
    · obtain ⟨b', hb', hbk, hvx⟩ := hv
      simp only [Value.slice.injEq, Option.some.injEq, Addr.mk.injEq, and_true] at hb'
      subst hb'
      have hr := run_byte1 v b k hk0 hk1 hbk
      refine at_value rfl (by kernel_rfl) (by go_simp; exact ⟨_, _, ⟨rfl, rfl⟩, rfl, hvx⟩) ?_
      clear hr
      rintro u ⟨_, rfl, _⟩
      refine g_turn (PutT w1 d) (k := 7) (by kernel_rfl) (fun _ _ h _ => h.2) (fun v hv => ?_)
      refine at_call (S := fun _ => True) rfl (by kernel_rfl) (by go_simp; (try exact ⟨rfl, rfl⟩)) (put_T w1 d v hv.2) ?_
      rintro u ⟨_, rfl, _⟩
      have HG : ∀ (l : Array Bool) v, PutT w1 d (.string (Va.pz d)) v → l.getD 99 false = false → Ext w1 v := fun _ _ h _ => h.2
      refine g_free (HG _) (i := 8) (v := ?_) rfl (by kernel_rfl) (by kernel_rfl) (by kernel_rfl) (by kernel_rfl) (fun _ _ _ h => h) (Still.yes (by kernel_rfl) fun w hS => ?_) ?_
      rotate_left 1
      · skip
        go_simp
        try simp only [h99, if_false]
        refine gives_mk ?_ rfl
        with_reducible rfl
      refine g_free (HG _) (i := 9) (v := ?_) rfl (by kernel_rfl) (by kernel_rfl) (by kernel_rfl) (by kernel_rfl) (fun _ _ _ h => h) (Still.yes (by kernel_rfl) fun w hS => ?_) ?_
      rotate_left 1
      · skip
        go_simp
        try simp only [h99, if_false]
        refine gives_mk ?_ rfl
        with_reducible rfl
      refine g_done (by kernel_rfl) ?_ _
      intro v hv
      have c0 := K0 v hv.2
      have c3 := K3 v hv.2
      have c2 := K2 v hv.2
      have HV := Lib.hid hv.2
      clear K0 K1 K2 K3 hv
      go_simp
      have h9 := pz_nine d
      have h8 : (Va.puts t.size).size ≤ 9 := by have := @Va.puts_nine (t.size : Int) (by omega) (by omega); simpa using this
      clear h99
      go_wp2_with fail
      refine (rexp_eq k true HX.out _).mono ?_
      rintro r w5 ⟨rfl, rfl⟩
      go_wp2_with fail
      refine (rtext_w t _ ht).mono ?_
      rintro r w5 ⟨rfl, hx5⟩
      go_wp2
      go_ret
      exact ⟨by rw [← HE.out, ← HPZ.out]; rfl, (((Ext.refl w).alloc _).trans HX1.out).trans (HV.out.trans hx5)⟩
    · refine at_call (S := fun _ => True) rfl (by kernel_rfl) (by go_simp; (try exact ⟨rfl, rfl⟩)) (put_B w1 d k _ v hv) ?_
      rintro u ⟨_, rfl, _⟩
      refine g_turn (ConT w1 k) (k := 4) (by kernel_rfl) (fun _ _ h _ => h.2) (fun v hv => ?_)
      obtain ⟨_, b', hb', hbk, hvx⟩ := hv
      simp only [Value.slice.injEq, Option.some.injEq, Addr.mk.injEq, and_true] at hb'
      subst hb'
      have hr := run_byte1 v b k hk0 hk1 hbk
      refine at_value rfl (by kernel_rfl) (by go_simp; exact ⟨_, _, ⟨rfl, rfl⟩, rfl, hvx⟩) ?_
      clear hr
      rintro u ⟨_, rfl, _⟩
      have HG : ∀ (l : Array Bool) v, ConT w1 k (.string ⟨#[UInt8.ofNat k.toNat]⟩) v → l.getD 99 false = false → Ext w1 v := fun _ _ h _ => h.2
      refine g_free (HG _) (i := 8) (v := ?_) rfl (by kernel_rfl) (by kernel_rfl) (by kernel_rfl) (by kernel_rfl) (fun _ _ _ h => h) (Still.yes (by kernel_rfl) fun w hS => ?_) ?_
      rotate_left 1
      · skip
        go_simp
        try simp only [h99, if_false]
        refine gives_mk ?_ rfl
        with_reducible rfl
      refine g_free (HG _) (i := 9) (v := ?_) rfl (by kernel_rfl) (by kernel_rfl) (by kernel_rfl) (by kernel_rfl) (fun _ _ _ h => h) (Still.yes (by kernel_rfl) fun w hS => ?_) ?_
      rotate_left 1
      · skip
        go_simp
        try simp only [h99, if_false]
        refine gives_mk ?_ rfl
        with_reducible rfl
      refine g_done (by kernel_rfl) ?_ _
      intro v hv
      have c0 := K0 v hv.2
      have c3 := K3 v hv.2
      have c2 := K2 v hv.2
      have HV := Lib.hid hv.2
      clear K0 K1 K2 K3 hv
      go_simp
      have h9 := pz_nine d
      have h8 : (Va.puts t.size).size ≤ 9 := by have := @Va.puts_nine (t.size : Int) (by omega) (by omega); simpa using this
      clear h99
      go_wp2_with fail
      refine (rexp_eq k true HX.out _).mono ?_
      rintro r w5 ⟨rfl, rfl⟩
      go_wp2_with fail
      refine (rtext_w t _ ht).mono ?_
      rintro r w5 ⟨rfl, hx5⟩
      go_wp2
      go_ret
      exact ⟨by rw [← HE.out, ← HPZ.out]; rfl, (((Ext.refl w).alloc _).trans HX1.out).trans (HV.out.trans hx5)⟩
  · refine at_call (S := fun _ => True) rfl (by kernel_rfl) (by go_simp; (try exact ⟨rfl, rfl⟩)) (put_T w1 d v hv) ?_
    rintro u ⟨_, rfl, _⟩
    refine g_turn (Byte1 w1 k) (k := 3) (by kernel_rfl) (fun _ _ h _ => h.x) (fun v hv => ?_)
    refine at_value rfl (by kernel_rfl) (by go_simp; exact ⟨_, _, ⟨rfl, rfl⟩, v.heap.size, rfl, blk_new _ _, hv.2.alloc _⟩) ?_
    rintro u ⟨_, b, rfl, _⟩
    refine g_turn (ConT w1 k) (k := 4) (by kernel_rfl) (fun _ _ h _ => h.2) (fun v hv => ?_)
    obtain ⟨b', hb', hbk, hvx⟩ := hv
    simp only [Value.slice.injEq, Option.some.injEq, Addr.mk.injEq, and_true] at hb'
    subst hb'
    have hr := run_byte1 v b k hk0 hk1 hbk
    refine at_value rfl (by kernel_rfl) (by go_simp; exact ⟨_, _, ⟨rfl, rfl⟩, rfl, hvx⟩) ?_
    clear hr
    rintro u ⟨_, rfl, _⟩
    have HG : ∀ (l : Array Bool) v, ConT w1 k (.string ⟨#[UInt8.ofNat k.toNat]⟩) v → l.getD 99 false = false → Ext w1 v := fun _ _ h _ => h.2
    refine g_free (HG _) (i := 8) (v := ?_) rfl (by kernel_rfl) (by kernel_rfl) (by kernel_rfl) (by kernel_rfl) (fun _ _ _ h => h) (Still.yes (by kernel_rfl) fun w hS => ?_) ?_
    rotate_left 1
    · skip
      go_simp
      try simp only [h99, if_false]
      refine gives_mk ?_ rfl
      with_reducible rfl
    refine g_free (HG _) (i := 9) (v := ?_) rfl (by kernel_rfl) (by kernel_rfl) (by kernel_rfl) (by kernel_rfl) (fun _ _ _ h => h) (Still.yes (by kernel_rfl) fun w hS => ?_) ?_
    rotate_left 1
    · skip
      go_simp
      try simp only [h99, if_false]
      refine gives_mk ?_ rfl
      with_reducible rfl
    refine g_done (by kernel_rfl) ?_ _
    intro v hv
    have c0 := K0 v hv.2
    have c3 := K3 v hv.2
    have c2 := K2 v hv.2
    have HV := Lib.hid hv.2
    clear K0 K1 K2 K3 hv
    go_simp
    have h9 := pz_nine d
    have h8 : (Va.puts t.size).size ≤ 9 := by have := @Va.puts_nine (t.size : Int) (by omega) (by omega); simpa using this
    clear h99
    go_wp2_with fail
    refine (rexp_eq k true HX.out _).mono ?_
    rintro r w5 ⟨rfl, rfl⟩
    go_wp2_with fail
    refine (rtext_w t _ ht).mono ?_
    rintro r w5 ⟨rfl, hx5⟩
    go_wp2
    go_ret
    exact ⟨by rw [← HE.out, ← HPZ.out]; rfl, (((Ext.refl w).alloc _).trans HX1.out).trans (HV.out.trans hx5)⟩

end Go.Proofs.Ytcdfpifhjjiioaa
