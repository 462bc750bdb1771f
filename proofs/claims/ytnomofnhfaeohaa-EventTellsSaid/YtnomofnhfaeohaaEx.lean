/-
  The walk of the statement EventTells: for every event, text and place it returns true.
-/
import Derived.Test.YtnomofnhfaeohaaEv
set_option linter.unusedVariables false
set_option linter.unusedSimpArgs false
namespace Go.Proofs.Ytnomofnhfaeohaa
open Go.RowKit

theorem rdecode_k (s : ByteArray) (a : Int) (k d : Int) (xs : List Int) (t : ByteArray) (p q : Int) (h : Ev.decP s a = (⟨k, d, xs, t⟩, p, q)) (w : World) (hs : s.size ≤ maxLen) : Calls Try.prog 11 #[.string s, .int .i64 a] w (DecK k d xs t p q w) :=
  (rdec_any s a w hs).mono fun r w' hd => by
    rw [h] at hd
    obtain ⟨v, rfl, ⟨A, c, rfl, hI⟩, hx⟩ := hd
    exact ⟨A, c, rfl, hI, hx⟩
theorem rencode_k (k d : Int) (xs : List Int) (t b : ByteArray) (h : Ev.enc ⟨k, d, xs, t⟩ = b) (A : Option Addr) (c : Nat) (w : World) (hI : IntsAt w (.slice A xs.length c) xs) (hn : xs.length ≤ 1000) (ht : t.size ≤ 1000000) :
    Calls Try.prog 15 #[.agg #[.int .i64 k, .int .i64 d, .slice A xs.length c, .string t]] w fun r w' => r = .returned (.string b) ∧ Ext w w' := by
  subst h; exact renc_e _ ⟨k, d, xs, t⟩ w ⟨A, c, rfl, hI⟩ hn ht
theorem rmay_k (k d : Int) (xs : List Int) (t : ByteArray) (b : Bool) (h : Ev.may ⟨k, d, xs, t⟩ = b) (A : Option Addr) (c : Nat) (w : World) (hI : IntsAt w (.slice A xs.length c) xs) (hn : xs.length ≤ 1000000) :
    Calls Try.prog 13 #[.agg #[.int .i64 k, .int .i64 d, .slice A xs.length c, .string t]] w fun r w' => r = .returned (.bool b) ∧ Ext w w' := by
  subst h; exact rmay_e _ ⟨k, d, xs, t⟩ w ⟨A, c, rfl, hI⟩ hn
theorem Ev.decP_len (s : ByteArray) (a : Int) : (Ev.decP s a).1.args.length ≤ 3 := by
  unfold Ev.decP
  by_cases h : a < 0 ∨ (s.size : Int) < a
  · rw [if_pos h]; simp [Ev.zero]
  · rw [if_neg h]
    simp only
    by_cases h0 : (Ev.dec (s.data.toList.drop a.toNat)).2.2 = 0
    · rcases hd : Ev.dec (s.data.toList.drop a.toNat) with ⟨e, c, x⟩
      rw [hd] at h0
      simp only at h0
      subst h0
      obtain ⟨hm, _⟩ := Ev.dec_ok hd
      by_cases hx : Ki.exp e.kind = true
      · rw [Ev.may_exp hm hx]; simp
      · rw [(Ev.may_no hm hx).2.1]; exact Ki.args_le _
    · rw [Ev.dec_zero h0]; simp [Ev.zero]
theorem evs_one (w : World) (a : Ev) (A : Option Addr) (c : Nat) (ha : IntsAt w (.slice A a.args.length c) a.args) :
    EvsAt (w.alloc (.cells #[.int .i64 a.kind, .int .i64 a.dt, .slice A a.args.length c, .string a.text] 24)) (.slice (some ⟨w.heap.size, 0, none⟩) 1 1) [a] := by
  refine ⟨_, 1, rfl, fun _ => ⟨w.heap.size, 0, rfl, by simp, fun j e hj => ?_⟩⟩
  have hn := blk_new w (.cells #[.int .i64 a.kind, .int .i64 a.dt, .slice A a.args.length c, .string a.text] 24)
  match j with
  | 0 =>
    simp at hj; subst hj
    exact ⟨A, c, blk_cell hn 0 _ rfl, blk_cell hn 1 _ rfl, blk_cell hn 2 _ rfl, blk_cell hn 3 _ rfl, ha.ext ((Ext.refl w).alloc _)⟩
  | j + 1 => simp at hj
theorem evs_one_at (w : World) (g : Nat) (hg : w.heap.size = g) (a : Ev) (A : Option Addr) (c : Nat) (ha : IntsAt w (.slice A a.args.length c) a.args) :
    EvsAt (w.alloc (.cells #[.int .i64 a.kind, .int .i64 a.dt, .slice A a.args.length c, .string a.text] 24)) (.slice (some ⟨g, 0, none⟩) 1 1) [a] := by subst hg; exact evs_one w a A c ha
set_option maxRecDepth 100000 in
set_option maxHeartbeats 1000000 in
theorem etells_out (A : Option Addr) (c : Nat) (k d : Int) (xs : List Int) (t : ByteArray) (s : ByteArray) (a : Int) (w : World) (hI : IntsAt w (.slice A xs.length c) xs) (hs : s.size ≤ maxLen) (sh : Bool) (hsh : Ev.short [⟨k, d, xs, t⟩] = sh) (ho : sh = true → 5000 < s.size) :
    Calls Try.prog 3 #[.agg #[.int .i64 k, .int .i64 d, .slice A xs.length c, .string t], .string s, .int .i64 a] w fun e w' => e = .returned (.bool true) ∧ Ext w w' := by
  unfold maxLen at hs
  have HI : Hid (IntsAt (w.alloc (.cells #[.int .i64 k, .int .i64 d, .slice A xs.length c, .string t] 24)) (.slice A xs.length c) xs) := Lib.hid (hI.ext ((Ext.refl w).alloc _))
  have HSH := Lib.hid hsh
  clear hI hsh
  cases sh with
  | true =>
    have h5 := ho rfl
    clear ho
    go_enter Try.func3, Try.ntmps3
    go_wp2_with fail
    refine (short_eq _ _ true HSH.out _ (evs_one_at (w.alloc (.cells #[.int .i64 k, .int .i64 d, .slice A xs.length c, .string t] 24)) (w.heap.size + 1) (by simp) ⟨k, d, xs, t⟩ A c HI.out) (by simp)).mono ?_
    rintro r w2 ⟨rfl, rfl⟩
    go_wp2_with fail
    refine (efixed_yes _).mono ?_
    rintro r w2 ⟨rfl, hx2⟩
    go_wp2
    go_ret
    exact ⟨rfl, (((Ext.refl w).alloc _).alloc _).trans hx2⟩
  | false =>
    clear ho
    go_enter Try.func3, Try.ntmps3
    go_wp2_with fail
    refine (short_eq _ _ false HSH.out _ (evs_one_at (w.alloc (.cells #[.int .i64 k, .int .i64 d, .slice A xs.length c, .string t] 24)) (w.heap.size + 1) (by simp) ⟨k, d, xs, t⟩ A c HI.out) (by simp)).mono ?_
    rintro r w2 ⟨rfl, rfl⟩
    go_wp2_with fail
    refine (efixed_yes _).mono ?_
    rintro r w2 ⟨rfl, hx2⟩
    go_wp2
    go_ret
    exact ⟨rfl, (((Ext.refl w).alloc _).alloc _).trans hx2⟩
set_option maxRecDepth 100000 in
set_option maxHeartbeats 1000000 in
theorem etells_in (A : Option Addr) (c : Nat) (k d : Int) (xs : List Int) (t : ByteArray) (s : ByteArray) (a : Int) (w : World) (hI : IntsAt w (.slice A xs.length c) xs) (hs : s.size ≤ 5000) (hsh : Ev.short [⟨k, d, xs, t⟩] = true) (hz : xs.length ≤ 20) (hzt : t.size ≤ 300) (mb : Bool) (hmb : Ev.may ⟨k, d, xs, t⟩ = mb) (E : ByteArray) (hE : Ev.enc ⟨k, d, xs, t⟩ = E) :
    Calls Try.prog 3 #[.agg #[.int .i64 k, .int .i64 d, .slice A xs.length c, .string t], .string s, .int .i64 a] w fun e w' => e = .returned (.bool true) ∧ Ext w w' := by
  have HI : Hid (∀ v, Ext (w.alloc (.cells #[.int .i64 k, .int .i64 d, .slice A xs.length c, .string t] 24)) v → IntsAt v (.slice A xs.length c) xs) := Lib.hid fun v hv => hI.ext (((Ext.refl w).alloc _).trans hv)
  have HSH := Lib.hid hsh
  have HMB := Lib.hid hmb
  have HE := Lib.hid hE
  have hlen := Ev.decP_len s a
  rcases hp : Ev.decP s a with ⟨⟨k', d', xs', t'⟩, p, q⟩
  rw [hp] at hlen
  simp only at hlen
  have HP := Lib.hid hp
  clear hI hsh hmb hE hp
  go_enter Try.func3, Try.ntmps3
  go_wp2_with fail
  refine (short_eq _ _ true HSH.out _ (evs_one_at (w.alloc (.cells #[.int .i64 k, .int .i64 d, .slice A xs.length c, .string t] 24)) (w.heap.size + 1) (by simp) ⟨k, d, xs, t⟩ A c (HI.out _ (Ext.refl _))) (by simp)).mono ?_
  rintro r w2 ⟨rfl, rfl⟩
  go_wp2_with fail
  refine (decode_k s a k' d' xs' t' p q HP.out _ (by unfold maxLen; omega)).mono ?_
  rintro r w2 ⟨A2, c2, rfl, hI2, hx2⟩
  have HX2 : Hid (Ext (w.alloc (.cells #[.int .i64 k, .int .i64 d, .slice A xs.length c, .string t] 24)) w2) := Lib.hid (((Ext.refl _).alloc _).trans hx2)
  have HI2 := Lib.hid hI2
  clear hx2 hI2
  go_wp2_with fail
  refine (rdecode_k s a k' d' xs' t' p q HP.out _ (by unfold maxLen; omega)).mono ?_
  rintro r w3 ⟨A3, c3, rfl, hI3, hx3⟩
  have HX3 : Hid (Ext (w2.alloc (.cells #[.int .i64 k', .int .i64 d', .slice A2 xs'.length c2, .string t'] 24)) w3) := Lib.hid hx3
  have HI3 := Lib.hid hI3
  clear hx3 hI3
  go_wp2
  refine region_all (fun v => Ext (w3.alloc (.cells #[.int .i64 k', .int .i64 d', .slice A3 xs'.length c3, .string t'] 24)) v) (by kernel_rfl) (Ext.refl _).drew ?_
  have HA : Hid (∀ v, Ext (w3.alloc (.cells #[.int .i64 k', .int .i64 d', .slice A3 xs'.length c3, .string t'] 24)) v → Ext (w.alloc (.cells #[.int .i64 k, .int .i64 d, .slice A xs.length c, .string t] 24)) v) := Lib.hid fun v hv => HX2.out.trans (((Ext.refl w2).alloc _).trans (HX3.out.trans (((Ext.refl w3).alloc _).trans hv)))
  have HB : Hid (∀ v, Ext (w3.alloc (.cells #[.int .i64 k', .int .i64 d', .slice A3 xs'.length c3, .string t'] 24)) v → Ext (w2.alloc (.cells #[.int .i64 k', .int .i64 d', .slice A2 xs'.length c2, .string t'] 24)) v) := Lib.hid fun v hv => HX3.out.trans (((Ext.refl w3).alloc _).trans hv)
  have a0 : ∀ v, Ext (w3.alloc (.cells #[.int .i64 k', .int .i64 d', .slice A3 xs'.length c3, .string t'] 24)) v → v.cell? ⟨w.heap.size, 0, none⟩ = some (.int .i64 k) := fun v hv => Ext.box (HA.out v hv) 0 _ rfl
  have a1 : ∀ v, Ext (w3.alloc (.cells #[.int .i64 k', .int .i64 d', .slice A3 xs'.length c3, .string t'] 24)) v → v.cell? ⟨w.heap.size, 1, none⟩ = some (.int .i64 d) := fun v hv => Ext.box (HA.out v hv) 1 _ rfl
  have a2 : ∀ v, Ext (w3.alloc (.cells #[.int .i64 k', .int .i64 d', .slice A3 xs'.length c3, .string t'] 24)) v → v.cell? ⟨w.heap.size, 2, none⟩ = some (.slice A xs.length c) := fun v hv => Ext.box (HA.out v hv) 2 _ rfl
  have a3 : ∀ v, Ext (w3.alloc (.cells #[.int .i64 k', .int .i64 d', .slice A3 xs'.length c3, .string t'] 24)) v → v.cell? ⟨w.heap.size, 3, none⟩ = some (.string t) := fun v hv => Ext.box (HA.out v hv) 3 _ rfl
  have b0 : ∀ v, Ext (w3.alloc (.cells #[.int .i64 k', .int .i64 d', .slice A3 xs'.length c3, .string t'] 24)) v → v.cell? ⟨w2.heap.size, 0, none⟩ = some (.int .i64 k') := fun v hv => Ext.box (HB.out v hv) 0 _ rfl
  have b1 : ∀ v, Ext (w3.alloc (.cells #[.int .i64 k', .int .i64 d', .slice A3 xs'.length c3, .string t'] 24)) v → v.cell? ⟨w2.heap.size, 1, none⟩ = some (.int .i64 d') := fun v hv => Ext.box (HB.out v hv) 1 _ rfl
  have b2 : ∀ v, Ext (w3.alloc (.cells #[.int .i64 k', .int .i64 d', .slice A3 xs'.length c3, .string t'] 24)) v → v.cell? ⟨w2.heap.size, 2, none⟩ = some (.slice A2 xs'.length c2) := fun v hv => Ext.box (HB.out v hv) 2 _ rfl
  have b3 : ∀ v, Ext (w3.alloc (.cells #[.int .i64 k', .int .i64 d', .slice A3 xs'.length c3, .string t'] 24)) v → v.cell? ⟨w2.heap.size, 3, none⟩ = some (.string t') := fun v hv => Ext.box (HB.out v hv) 3 _ rfl
  have d0 : ∀ v, Ext (w3.alloc (.cells #[.int .i64 k', .int .i64 d', .slice A3 xs'.length c3, .string t'] 24)) v → v.cell? ⟨w3.heap.size, 0, none⟩ = some (.int .i64 k') := fun v hv => Ext.box hv 0 _ rfl
  have d1 : ∀ v, Ext (w3.alloc (.cells #[.int .i64 k', .int .i64 d', .slice A3 xs'.length c3, .string t'] 24)) v → v.cell? ⟨w3.heap.size, 1, none⟩ = some (.int .i64 d') := fun v hv => Ext.box hv 1 _ rfl
  have d2 : ∀ v, Ext (w3.alloc (.cells #[.int .i64 k', .int .i64 d', .slice A3 xs'.length c3, .string t'] 24)) v → v.cell? ⟨w3.heap.size, 2, none⟩ = some (.slice A3 xs'.length c3) := fun v hv => Ext.box hv 2 _ rfl
  have d3 : ∀ v, Ext (w3.alloc (.cells #[.int .i64 k', .int .i64 d', .slice A3 xs'.length c3, .string t'] 24)) v → v.cell? ⟨w3.heap.size, 3, none⟩ = some (.string t') := fun v hv => Ext.box hv 3 _ rfl
  refine all_take (i := 0) (v := .bool true) rfl (by kernel_rfl) (by kernel_rfl) (by kernel_rfl) (fun _ _ _ h => h) (Tame.yes (by kernel_rfl) fun w hS => ?_) ?_
  · go_simp
    refine gives_call ((efixed_yes _).mono ?_)
    exact fun r w2 ⟨he, hx⟩ => ⟨he, hS.trans hx⟩
  refine all_take (i := 1) (v := ?_) rfl (by kernel_rfl) (by kernel_rfl) (by kernel_rfl) (fun _ _ _ h => h) (Tame.yes (by kernel_rfl) fun w hS => ?_) ?_
  rotate_left 1
  · skip
    go_simp
    try simp only [beq_self_eq_true]
    refine gives_mk ?_ hS
    with_reducible rfl
  refine all_take (i := 2) (v := ?_) rfl (by kernel_rfl) (by kernel_rfl) (by kernel_rfl) (fun _ _ _ h => h) (Tame.yes (by kernel_rfl) fun w hS => ?_) ?_
  rotate_left 1
  · skip
    go_simp
    try simp only [beq_self_eq_true]
    refine gives_mk ?_ hS
    with_reducible rfl
  refine all_take (i := 3) (v := .bool mb) rfl (by kernel_rfl) (by kernel_rfl) (by kernel_rfl) (fun _ _ _ h => h) (Tame.yes (by kernel_rfl) fun w hS => ?_) ?_
  · go_simp
    refine gives_call ((may_k k d xs t mb HMB.out _ _ _ (HI.out _ (HA.out _ hS)) (by omega)).mono ?_)
    exact fun r w2 ⟨he, hx⟩ => ⟨he, hS.trans hx⟩
  refine all_take (i := 4) (v := ?_) rfl (by kernel_rfl) (by kernel_rfl) (by kernel_rfl) (fun _ _ _ h => h) (Tame.yes (by kernel_rfl) fun w hS => ?_) ?_
  rotate_left 1
  · skip
    go_simp
    try simp only [beq_self_eq_true]
    refine gives_mk ?_ hS
    with_reducible rfl
  refine all_take (i := 5) (v := .bool mb) rfl (by kernel_rfl) (by kernel_rfl) (by kernel_rfl) (fun _ _ _ h => h) (Tame.yes (by kernel_rfl) fun w hS => ?_) ?_
  · go_simp
    refine gives_call ((rmay_k k d xs t mb HMB.out _ _ _ (HI.out _ (HA.out _ hS)) (by omega)).mono ?_)
    exact fun r w2 ⟨he, hx⟩ => ⟨he, hS.trans hx⟩
  refine all_take (i := 6) (v := ?_) rfl (by kernel_rfl) (by kernel_rfl) (by kernel_rfl) (fun _ _ _ h => h) (Tame.yes (by kernel_rfl) fun w hS => ?_) ?_
  rotate_left 1
  · skip
    go_simp
    try simp only [beq_self_eq_true]
    refine gives_mk ?_ hS
    with_reducible rfl
  refine all_take (i := 7) (v := ?_) rfl (by kernel_rfl) (by kernel_rfl) (by kernel_rfl) (fun _ _ _ h => h) (Tame.yes (by kernel_rfl) fun w hS => ?_) ?_
  rotate_left 1
  · skip
    go_simp
    try simp only [beq_self_eq_true]
    refine gives_mk ?_ hS
    with_reducible rfl
  refine all_take (i := 8) (v := ?_) rfl (by kernel_rfl) (by kernel_rfl) (by kernel_rfl) (fun _ _ _ h => h) (Tame.yes (by kernel_rfl) fun w hS => ?_) ?_
  rotate_left 1
  · skip
    go_simp
    try simp only [beq_self_eq_true]
    refine gives_mk ?_ hS
    with_reducible rfl
  refine all_take (i := 9) (v := ?_) rfl (by kernel_rfl) (by kernel_rfl) (by kernel_rfl) (fun _ _ _ h => h) (Tame.yes (by kernel_rfl) fun w hS => ?_) ?_
  rotate_left 1
  · skip
    go_simp
    try simp only [beq_self_eq_true]
    refine gives_mk ?_ hS
    with_reducible rfl
  refine all_take (i := 10) (v := .string E) rfl (by kernel_rfl) (by kernel_rfl) (by kernel_rfl) (fun _ _ _ h => h) (Tame.yes (by kernel_rfl) fun w hS => ?_) ?_
  · go_simp
    refine gives_call ((encode_k k d xs t E HE.out _ _ _ (HI.out _ (HA.out _ hS)) (by omega) (by omega)).mono ?_)
    exact fun r w2 ⟨he, hx⟩ => ⟨he, hS.trans hx⟩
  refine all_take (i := 11) (v := ?_) rfl (by kernel_rfl) (by kernel_rfl) (by kernel_rfl) (fun _ _ _ h => h) (Tame.yes (by kernel_rfl) fun w hS => ?_) ?_
  rotate_left 1
  · skip
    go_simp
    try simp only [beq_self_eq_true]
    refine gives_mk ?_ hS
    with_reducible rfl
  refine all_take (i := 12) (v := .string E) rfl (by kernel_rfl) (by kernel_rfl) (by kernel_rfl) (fun _ _ _ h => h) (Tame.yes (by kernel_rfl) fun w hS => ?_) ?_
  · go_simp
    refine gives_call ((rencode_k k d xs t E HE.out _ _ _ (HI.out _ (HA.out _ hS)) (by omega) (by omega)).mono ?_)
    exact fun r w2 ⟨he, hx⟩ => ⟨he, hS.trans hx⟩
  refine all_take (i := 13) (v := ?_) rfl (by kernel_rfl) (by kernel_rfl) (by kernel_rfl) (fun _ _ _ h => h) (Tame.yes (by kernel_rfl) fun w hS => ?_) ?_
  rotate_left 1
  · skip
    go_simp
    try simp only [beq_self_eq_true]
    refine gives_mk ?_ hS
    with_reducible rfl
  refine all_take (i := 14) (v := ?_) rfl (by kernel_rfl) (by kernel_rfl) (by kernel_rfl) (fun _ _ _ h => h) (Tame.yes (by kernel_rfl) fun w hS => ?_) ?_
  rotate_left 1
  · skip
    go_simp
    try simp only [beq_self_eq_true]
    refine gives_mk ?_ hS
    with_reducible rfl
  refine all_take (i := 15) (v := ?_) rfl (by kernel_rfl) (by kernel_rfl) (by kernel_rfl) (fun _ _ _ h => h) (Tame.yes (by kernel_rfl) fun w hS => ?_) ?_
  rotate_left 1
  · skip
    go_simp
    try simp only [beq_self_eq_true]
    refine gives_mk ?_ hS
    with_reducible rfl
  refine all_take (i := 16) (v := ?_) rfl (by kernel_rfl) (by kernel_rfl) (by kernel_rfl) (fun _ _ _ h => h) (Tame.yes (by kernel_rfl) fun w hS => ?_) ?_
  rotate_left 1
  · skip
    go_simp
    try simp only [beq_self_eq_true]
    refine gives_mk ?_ hS
    with_reducible rfl
  refine all_take (i := 17) (v := ?_) rfl (by kernel_rfl) (by kernel_rfl) (by kernel_rfl) (fun _ _ _ h => h) (Tame.yes (by kernel_rfl) fun w hS => ?_) ?_
  rotate_left 1
  · skip
    go_simp
    try simp only [beq_self_eq_true]
    refine gives_mk ?_ hS
    with_reducible rfl
  refine all_take (i := 18) (v := .bool true) rfl (by kernel_rfl) (by kernel_rfl) (by kernel_rfl) (fun _ _ _ h => h) (Tame.yes (by kernel_rfl) fun w hS => ?_) ?_
  · go_simp
    refine gives_call ((same_k k' d' xs' t' k' d' xs' t' true ((Ev.sameB_iff _ _).2 rfl) _ _ _ _ _ (HI2.out.ext (((Ext.refl w2).alloc _).trans (HB.out _ hS))) (HI3.out.ext (((Ext.refl w3).alloc _).trans hS)) (by omega)).mono ?_)
    exact fun r w2 ⟨he, hx⟩ => ⟨he, hS.trans hx⟩
  refine all_take (i := 19) (v := ?_) rfl (by kernel_rfl) (by kernel_rfl) (by kernel_rfl) (fun _ _ _ h => h) (Tame.yes (by kernel_rfl) fun w hS => ?_) ?_
  rotate_left 1
  · skip
    go_simp
    try simp only [beq_self_eq_true]
    refine gives_mk ?_ hS
    with_reducible rfl
  refine all_take (i := 20) (v := ?_) rfl (by kernel_rfl) (by kernel_rfl) (by kernel_rfl) (fun _ _ _ h => h) (Tame.yes (by kernel_rfl) fun w hS => ?_) ?_
  rotate_left 1
  · skip
    go_simp
    try simp only [beq_self_eq_true]
    refine gives_mk ?_ hS
    with_reducible rfl
  refine all_take (i := 21) (v := ?_) rfl (by kernel_rfl) (by kernel_rfl) (by kernel_rfl) (fun _ _ _ h => h) (Tame.yes (by kernel_rfl) fun w hS => ?_) ?_
  rotate_left 1
  · skip
    go_simp
    try simp only [beq_self_eq_true]
    refine gives_mk ?_ hS
    with_reducible rfl
  refine all_take (i := 22) (v := ?_) rfl (by kernel_rfl) (by kernel_rfl) (by kernel_rfl) (fun _ _ _ h => h) (Tame.yes (by kernel_rfl) fun w hS => ?_) ?_
  rotate_left 1
  · skip
    go_simp
    try simp only [beq_self_eq_true]
    refine gives_mk ?_ hS
    with_reducible rfl
  refine all_take (i := 23) (v := ?_) rfl (by kernel_rfl) (by kernel_rfl) (by kernel_rfl) (fun _ _ _ h => h) (Tame.yes (by kernel_rfl) fun w hS => ?_) ?_
  rotate_left 1
  · skip
    go_simp
    try simp only [beq_self_eq_true]
    refine gives_mk ?_ hS
    with_reducible rfl
  refine all_take (i := 24) (v := ?_) rfl (by kernel_rfl) (by kernel_rfl) (by kernel_rfl) (fun _ _ _ h => h) (Tame.yes (by kernel_rfl) fun w hS => ?_) ?_
  rotate_left 1
  · skip
    go_simp
    try simp only [beq_self_eq_true]
    refine gives_mk ?_ hS
    with_reducible rfl
  refine all_take (i := 25) (v := ?_) rfl (by kernel_rfl) (by kernel_rfl) (by kernel_rfl) (fun _ _ _ h => h) (Tame.yes (by kernel_rfl) fun w hS => ?_) ?_
  rotate_left 1
  · skip
    go_simp
    try simp only [beq_self_eq_true]
    refine gives_mk ?_ hS
    with_reducible rfl
  refine all_take (i := 26) (v := ?_) rfl (by kernel_rfl) (by kernel_rfl) (by kernel_rfl) (fun _ _ _ h => h) (Tame.yes (by kernel_rfl) fun w hS => ?_) ?_
  rotate_left 1
  · skip
    go_simp
    try simp only [beq_self_eq_true]
    refine gives_mk ?_ hS
    with_reducible rfl
  refine all_take (i := 27) (v := ?_) rfl (by kernel_rfl) (by kernel_rfl) (by kernel_rfl) (fun _ _ _ h => h) (Tame.yes (by kernel_rfl) fun w hS => ?_) ?_
  rotate_left 1
  · skip
    go_simp
    try simp only [beq_self_eq_true]
    refine gives_mk ?_ hS
    with_reducible rfl
  refine all_take (i := 28) (v := ?_) rfl (by kernel_rfl) (by kernel_rfl) (by kernel_rfl) (fun _ _ _ h => h) (Tame.yes (by kernel_rfl) fun w hS => ?_) ?_
  rotate_left 1
  · skip
    go_simp
    try simp only [beq_self_eq_true]
    refine gives_mk ?_ hS
    with_reducible rfl
  refine all_take (i := 29) (v := ?_) rfl (by kernel_rfl) (by kernel_rfl) (by kernel_rfl) (fun _ _ _ h => h) (Tame.yes (by kernel_rfl) fun w hS => ?_) ?_
  rotate_left 1
  · skip
    go_simp
    try simp only [beq_self_eq_true]
    refine gives_mk ?_ hS
    with_reducible rfl
  refine all_take (i := 30) (v := ?_) rfl (by kernel_rfl) (by kernel_rfl) (by kernel_rfl) (fun _ _ _ h => h) (Tame.yes (by kernel_rfl) fun w hS => ?_) ?_
  rotate_left 1
  · skip
    go_simp
    try simp only [beq_self_eq_true]
    refine gives_mk ?_ hS
    with_reducible rfl
  refine all_done ?_ ?_ _
  · kernel_rfl
  intro w5 hw5
  have HW5 : Hid (Ext w w5) := Lib.hid (((Ext.refl w).alloc _).trans (HA.out _ hw5))
  clear a0 a1 a2 a3 b0 b1 b2 b3 d0 d1 d2 d3 hw5
  go_simp
  go_wp2
  go_ret
  exact ⟨by simp, HW5.out⟩
theorem Ev.short_one {a : Ev} (h : Ev.short [a] = true) : a.args.length ≤ 20 ∧ a.text.size ≤ 300 := by
  unfold Ev.short at h
  simp [Ev.short1] at h
  omega
theorem walk_EventTells (v : Value) (e : Ev) (s : ByteArray) (a : Int) (w : World) (he : EvAt w v e) (_ : EvIn e) (hs : s.size ≤ maxLen) (_ : (Lit.int .i64 a).wf = true) :
    Calls Try.prog 3 #[v, .string s, .int .i64 a] w fun e w' => e = .returned (.bool true) ∧ Ext w w' := by
  obtain ⟨A, c, rfl, hI⟩ := he
  obtain ⟨k, d, xs, t⟩ := e
  cases hsh : Ev.short [⟨k, d, xs, t⟩] with
  | false => exact etells_out A c k d xs t s a w hI hs false hsh (fun h => by cases h)
  | true =>
    by_cases h5 : 5000 < s.size
    · exact etells_out A c k d xs t s a w hI hs true hsh (fun _ => h5)
    · obtain ⟨h1, h2⟩ := Ev.short_one hsh
      exact etells_in A c k d xs t s a w hI (by omega) hsh h1 h2 _ rfl _ rfl

end Go.Proofs.Ytnomofnhfaeohaa
