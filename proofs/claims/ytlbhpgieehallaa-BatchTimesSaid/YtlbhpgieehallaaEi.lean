/-
  The contract of event.Decode, where all is right; and in all.
-/
import Derived.Test.YtlbhpgieehallaaEh
set_option linter.unusedVariables false
set_option linter.unusedSimpArgs false
namespace Go.Proofs.Ytlbhpgieehallaa
open Go.RowKit

def DT5 (w : World) (k d : Int) (A : Option Addr) (cc : Nat) (xs : List Int) (t : ByteArray) (_ : Value) (v : World) : Prop :=
  v.heap[w.heap.size]? = some (.cells #[.int .i64 k, .int .i64 d, .slice A xs.length cc, .string t] 41 (0, 0)) ∧ IntsAt v (.slice A xs.length cc) xs ∧ Ext w v
theorem ints_set {w : World} {v : Value} {xs : List Int} (h : IntsAt w v xs) {g : Nat} (hg : ∀ A c b o, v = .slice A xs.length c → 0 < xs.length → A = some ⟨b, o, none⟩ → b ≠ g) (i : Nat) (u : Value) : IntsAt (w.setCell ⟨g, i, none⟩ u) v xs := by
  obtain ⟨A, c, rfl, h1⟩ := h
  refine ⟨A, c, rfl, fun h0 => ?_⟩
  obtain ⟨b, o, rfl, hb, hc⟩ := h1 h0
  have hne := hg _ _ b o rfl h0 rfl
  refine ⟨b, o, rfl, by simpa [World.setCell] using hb, fun j x hj => ?_⟩
  rw [← hc j x hj]
  exact World.cell?_of_block (Below.heap_setCell w ⟨g, i, none⟩ u b hne)
set_option maxRecDepth 100000 in
set_option maxHeartbeats 1000000 in
theorem decode_ok (s : ByteArray) (a : Nat) (w : World) (hs : s.size ≤ maxLen) (h : a ≤ s.size) (c : UInt8) (T : List UInt8) (hc : s.data.toList.drop a = c :: T) (hk : Ki.known c.toNat = true)
    (q : Ev × Int × Int) (hq : Ev.rest (s.extract a s.size) c.toNat 1 = q) (he : q.2.2 = 0) (ha0 : 0 ≤ q.2.1) (ha1 : (a : Int) + q.2.1 ≤ s.size) :
    Calls Try.prog 30 #[.string s, .int .i64 a] w (DecPost (q.1, (a : Int) + q.2.1, 0) w) := by
  unfold maxLen at hs
  have hd0 : decide ((a : Int) < 0) = false := by simp
  have hd1 : decide (s.size < a) = false := by simpa using h
  have hzw := blk_new w ((.cells #[.int .i64 0, .int .i64 0, .slice none 0 0, .string ⟨#[]⟩] 41))
  have HZW := Lib.hid hzw
  clear hzw
  have HS : Hid ((s.extract a s.size).size ≤ maxLen) := Lib.hid (by simp [maxLen]; omega)
  obtain ⟨hb, hsz⟩ := Wi.byte_cons (s := s.extract a s.size) (c := c) (T := T) (by rw [extract_drop, hc])
  have HB := Lib.hid hb
  have HSZ := Lib.hid hsz
  have HK := Lib.hid hk
  have HE := Lib.hid he
  clear hc hb hk hsz he
  go_enter Try.func30, Try.ntmps30
  go_wp2_with fail
  refine (new_any _ _).mono ?_
  rintro r w1 ⟨rfl, hr1, hx1⟩
  have hgz : w.heap.size + 1 ≤ (w.alloc ((.cells #[.int .i64 0, .int .i64 0, .slice none 0 0, .string ⟨#[]⟩] 41))).heap.size := by simp
  have HX1 : Hid (Ext w w1) := Lib.hid (((Ext.refl w).alloc _).trans hx1)
  have HZ1 := Lib.hid (hx1.blk HZW.out)
  clear hx1 HZW
  generalize s.extract a s.size = t at *
  generalize (w.alloc ((.cells #[.int .i64 0, .int .i64 0, .slice none 0 0, .string ⟨#[]⟩] 41))).heap.size = g at *
  have HR1 := Lib.hid hr1
  clear hr1
  go_wp2_with fail
  refine (byte_eq _ HR1.out HS.out (by omega) (by simp) HB.out).mono ?_
  rintro r w2 ⟨rfl, hr2, hu2⟩
  generalize (c.toNat : Int) = k at *
  have HU2 := Lib.hid hu2
  clear hu2
  go_wp2_with fail
  refine (err_ok _ _ _ _ hr2).mono ?_
  rintro r w3 ⟨rfl, rfl⟩
  go_wp2_with fail
  refine (known_eq k true HK.out _).mono ?_
  rintro r w3 ⟨rfl, rfl⟩
  go_wp2_with fail
  refine (rest_any g t k 1 _ hr2 HS.out).mono ?_
  rintro r w3 ⟨v, rfl, ⟨A, cc, rfl, hI, hB⟩, hr3, hu3⟩
  obtain ⟨⟨k', d', xs', t'⟩, a', e'⟩ := q
  try simp only at hq
  have HQ := Lib.hid hq
  rw [hq] at hI hr3 hB
  try simp only [hq] at *
  clear hq
  have HU3 := Lib.hid hu3
  have HI := Lib.hid hI
  have HBB := Lib.hid hB
  have HZ3 := Lib.hid (hu3.blk (HU2.out.blk HZ1.out (by omega)) (by omega))
  have HX3 : Hid (Ext w w3) := Lib.hid ((HX1.out.upd HU2.out (by omega)).upd hu3 (by omega))
  have hz3 := HX3.out.size
  have hz2 := Nat.lt_of_lt_of_le (blk_lt HZ1.out) HU2.out.size
  clear HU2 HU3
  have HR3 := Lib.hid (hr3.ext ((Ext.refl w3).alloc (.cells #[.int .i64 k', .int .i64 d', .slice A xs'.length cc, .string t'] 41)))
  clear hr2 hr3 hu3 hI hB
  obtain rfl : e' = 0 := HE.out
  go_wp2_with fail
  refine (err_ok _ _ _ _ HR3.out).mono ?_
  rintro r w4 ⟨rfl, rfl⟩
  go_wp2
  have HBN : Hid (((w3.alloc (.cells #[.int .i64 k', .int .i64 d', .slice A xs'.length cc, .string t'] 41))).drew.heap[w3.heap.size]? = some (.cells #[.int .i64 k', .int .i64 d', .slice A xs'.length cc, .string t'] 41 (0, 0))) := Lib.hid (blk_new w3 _)
  have HZ4 : Hid (((w3.alloc (.cells #[.int .i64 k', .int .i64 d', .slice A xs'.length cc, .string t'] 41))).drew.heap[w.heap.size]? = some ((.cells #[.int .i64 0, .int .i64 0, .slice none 0 0, .string ⟨#[]⟩] 41))) := Lib.hid (blk_alloc HZ3.out _)
  have HR4 : Hid (RD ((w3.alloc (.cells #[.int .i64 k', .int .i64 d', .slice A xs'.length cc, .string t'] 41))).drew g t a' 0) := Lib.hid (RD.drew HR3.out)
  have HX4 : Hid (Ext w ((w3.alloc (.cells #[.int .i64 k', .int .i64 d', .slice A xs'.length cc, .string t'] 41))).drew) := Lib.hid ((HX3.out.alloc _).drew)
  have HI4 : Hid (IntsAt ((w3.alloc (.cells #[.int .i64 k', .int .i64 d', .slice A xs'.length cc, .string t'] 41))).drew (.slice A xs'.length cc) xs') := Lib.hid (HI.out.ext ((Ext.refl w3).alloc _).drew)
  have hwr : IntKind.i64.wrap ((a : Int) + a') = (a : Int) + a' := IntWalk.i64_in _ (by omega)
  generalize hq3 : ((w3.alloc (.cells #[.int .i64 k', .int .i64 d', .slice A xs'.length cc, .string t'] 41))).drew = w4 at *
  have HU : Cov (fun v => v = w4) (fun v => v = w4) [] := ⟨fun _ h => h, fun p hp => by simp at hp⟩
  have HU : (∀ v, v = w4 → v = w4) ∧ ∀ p ∈ [((5 : Nat), DT5 w k' d' A cc xs' t')], p.1 = 5 ∨ ∀ u v, p.2 u v → v = w4 := ⟨fun _ h => h, fun p hp => by rw [List.mem_singleton] at hp; subst hp; exact .inl rfl⟩
  refine region_ph (fun v => v = w4) [(5, DT5 w k' d' A cc xs' t')] (by kernel_rfl) hq3 ?_
  have HW4 := Lib.hid hq3
  clear hq3
  have K0 : ∀ v, v = w4 → v.cell? ⟨w3.heap.size, 0, none⟩ = some (.int .i64 k') := fun v hv => by subst hv; exact blk_cell HBN.out 0 _ rfl
  have K1 : ∀ v, v = w4 → v.cell? ⟨w3.heap.size, 1, none⟩ = some (.int .i64 d') := fun v hv => by subst hv; exact blk_cell HBN.out 1 _ rfl
  have K2 : ∀ v, v = w4 → v.cell? ⟨w3.heap.size, 2, none⟩ = some (.slice A xs'.length cc) := fun v hv => by subst hv; exact blk_cell HBN.out 2 _ rfl
  have K3 : ∀ v, v = w4 → v.cell? ⟨w3.heap.size, 3, none⟩ = some (.string t') := fun v hv => by subst hv; exact blk_cell HBN.out 3 _ rfl
  refine ph_take2 _ HU (i := 0) (v := ?_) rfl (by kernel_rfl) (by kernel_rfl) (by kernel_rfl) (by kernel_rfl) (by kernel_rfl) (by kernel_rfl) (fun _ _ _ h => h) (Still.yes (by kernel_rfl) fun w hS => ?_) ?_
  rotate_left 1
  · skip
    go_simp
    refine gives_mk ?_ rfl
    with_reducible rfl
  refine ph_take (Cov.triv _ _) (i := 1) (v := ?_) rfl (by kernel_rfl) (by kernel_rfl) (by kernel_rfl) (by kernel_rfl) (fun _ _ _ h => h) (Still.yes (by kernel_rfl) fun w hS => ?_) ?_
  rotate_left 1
  · skip
    go_simp
    refine gives_mk ?_ rfl
    with_reducible rfl
  refine ph_take2 _ HU (i := 2) (v := ?_) rfl (by kernel_rfl) (by kernel_rfl) (by kernel_rfl) (by kernel_rfl) (by kernel_rfl) (by kernel_rfl) (fun _ _ _ h => h) (Still.yes (by kernel_rfl) fun w hS => ?_) ?_
  rotate_left 1
  · skip
    go_simp
    refine gives_mk ?_ rfl
    with_reducible rfl
  refine ph_take2 _ HU (i := 3) (v := .int .i64 a') rfl (by kernel_rfl) (by kernel_rfl) (by kernel_rfl) (by kernel_rfl) (by kernel_rfl) (by kernel_rfl) (fun _ _ _ h => h) (Still.yes (by kernel_rfl) fun w hS => ?_) ?_
  · go_simp
    refine gives_call ((at_any g t a' 0 _ (hS ▸ HR4.out)).mono ?_)
    exact fun r w2 ⟨he, hx⟩ => ⟨he, hx.symm⟩
  refine ph_take (Cov.triv _ _) (i := 4) (v := ?_) rfl (by kernel_rfl) (by kernel_rfl) (by kernel_rfl) (by kernel_rfl) (fun _ _ _ h => h) (Still.yes (by kernel_rfl) fun w hS => ?_) ?_
  rotate_left 1
  · skip
    go_simp
    try simp only [hwr]
    refine gives_mk ?_ rfl
    with_reducible rfl
  refine ph_skip (by kernel_rfl) rfl (by kernel_rfl) (fun v hv => ?_) ?_
  · subst hv
    have hzb := HZ4.out
    have z0 := blk_cell hzb 0 (.int .i64 0) rfl
    have z1 := blk_cell hzb 1 (.int .i64 0) rfl
    have z2 := blk_cell hzb 2 (.slice none 0 0) rfl
    have z3 := blk_cell hzb 3 (.string ⟨#[]⟩) rfl
    have y0 := frozen_of_row _ _ 0 _ _ hzb
    have y1 := frozen_of_row _ _ 1 _ _ hzb
    have y2 := frozen_of_row _ _ 2 _ _ hzb
    have y3 := frozen_of_row _ _ 3 _ _ hzb
    have HZB := Lib.hid hzb
    clear hzb
    have e0 := K0 _ rfl
    have e1 := K1 _ rfl
    have e2 := K2 _ rfl
    have e3 := K3 _ rfl
    clear K0 K1 K2 K3 HU
    go_simp
    refine ⟨blk_set (blk_set (blk_set (blk_set HZB.out 0 (.int .i64 k')) 1 (.int .i64 d')) 2 (.slice A xs'.length cc)) 3 (.string t'), ?_, HX4.out.set4 _ _ _ _⟩
    have far : ∀ A' c' b o, Value.slice A xs'.length cc = .slice A' xs'.length c' → 0 < xs'.length → A' = some ⟨b, o, none⟩ → b ≠ w.heap.size := fun A' c' b o hv h0 hA => by
      simp only [Value.slice.injEq, true_and] at hv
      have := HBB.out b o h0 (hv.1.trans hA)
      omega
    exact ints_set (ints_set (ints_set (ints_set HI4.out far 0 _) far 1 _) far 2 _) far 3 _
  refine ph_take (Cov.triv _ _) (i := 6) (v := ?_) rfl (by kernel_rfl) (by kernel_rfl) (by kernel_rfl) (by kernel_rfl) (fun _ _ _ h => h) (Still.yes (by kernel_rfl) fun w hS => ?_) ?_
  rotate_left 1
  · skip
    go_simp
    refine gives_mk ?_ rfl
    with_reducible rfl
  refine ph_take (Cov.triv _ _) (i := 7) (v := ?_) rfl (by kernel_rfl) (by kernel_rfl) (by kernel_rfl) (by kernel_rfl) (fun _ _ _ h => h) (Still.yes (by kernel_rfl) fun w hS => ?_) ?_
  rotate_left 1
  · skip
    go_simp
    refine gives_mk ?_ rfl
    with_reducible rfl
  refine ph_done ?_ ?_ _
  · kernel_rfl
  intro w5 hw5
  clear K0 K1 K2 K3 HU
  obtain ⟨hzz, hI5, hx5⟩ := hw5
  have HI5 := Lib.hid hI5
  have t0 := blk_cell hzz 0 (.int .i64 k') rfl
  have t1 := blk_cell hzz 1 (.int .i64 d') rfl
  have t2 := blk_cell hzz 2 (.slice A xs'.length cc) rfl
  have t3 := blk_cell hzz 3 (.string t') rfl
  clear hzz hI5
  go_simp
  go_wp2
  refine bodyPost_ret (v := .tuple #[.agg #[.int .i64 k', .int .i64 d', .slice A xs'.length cc, .string t'], .int .i64 ((a : Int) + a'), .int .i64 0]) (by simp [results, Try.results30, go_sem, t0, t1, t2, t3]) rfl ⟨_, rfl, ⟨A, cc, rfl, HI5.out, fun b o h0 hA => by have := HBB.out b o h0 hA; omega⟩, hx5⟩

set_option maxRecDepth 100000 in
set_option maxHeartbeats 1000000 in
theorem decode_exp (s : ByteArray) (a : Nat) (w : World) (hs : s.size ≤ maxLen) (h : a ≤ s.size) (c : UInt8) (T : List UInt8) (hc : s.data.toList.drop a = c :: T) (hk : Ki.known c.toNat = false) (hx : Ki.exp c.toNat = true)
    (q : Ev × Int × Int) (hq : Ev.rest (s.extract a s.size) c.toNat 1 = q) (he : q.2.2 = 0) (ha0 : 0 ≤ q.2.1) (ha1 : (a : Int) + q.2.1 ≤ s.size) :
    Calls Try.prog 30 #[.string s, .int .i64 a] w (DecPost (q.1, (a : Int) + q.2.1, 0) w) := by
  unfold maxLen at hs
  have hd0 : decide ((a : Int) < 0) = false := by simp
  have hd1 : decide (s.size < a) = false := by simpa using h
  have hzw := blk_new w ((.cells #[.int .i64 0, .int .i64 0, .slice none 0 0, .string ⟨#[]⟩] 41))
  have HZW := Lib.hid hzw
  clear hzw
  have HS : Hid ((s.extract a s.size).size ≤ maxLen) := Lib.hid (by simp [maxLen]; omega)
  obtain ⟨hb, hsz⟩ := Wi.byte_cons (s := s.extract a s.size) (c := c) (T := T) (by rw [extract_drop, hc])
  have HB := Lib.hid hb
  have HSZ := Lib.hid hsz
  have HK := Lib.hid hk
  have HX := Lib.hid hx
  have HE := Lib.hid he
  clear hc hb hk hx hsz he
  go_enter Try.func30, Try.ntmps30
  go_wp2_with fail
  refine (new_any _ _).mono ?_
  rintro r w1 ⟨rfl, hr1, hx1⟩
  have hgz : w.heap.size + 1 ≤ (w.alloc ((.cells #[.int .i64 0, .int .i64 0, .slice none 0 0, .string ⟨#[]⟩] 41))).heap.size := by simp
  have HX1 : Hid (Ext w w1) := Lib.hid (((Ext.refl w).alloc _).trans hx1)
  have HZ1 := Lib.hid (hx1.blk HZW.out)
  clear hx1 HZW
  generalize s.extract a s.size = t at *
  generalize (w.alloc ((.cells #[.int .i64 0, .int .i64 0, .slice none 0 0, .string ⟨#[]⟩] 41))).heap.size = g at *
  have HR1 := Lib.hid hr1
  clear hr1
  go_wp2_with fail
  refine (byte_eq _ HR1.out HS.out (by omega) (by simp) HB.out).mono ?_
  rintro r w2 ⟨rfl, hr2, hu2⟩
  generalize (c.toNat : Int) = k at *
  have HU2 := Lib.hid hu2
  clear hu2
  go_wp2_with fail
  refine (err_ok _ _ _ _ hr2).mono ?_
  rintro r w3 ⟨rfl, rfl⟩
  go_wp2_with fail
  refine (known_eq k false HK.out _).mono ?_
  rintro r w3 ⟨rfl, rfl⟩
  go_wp2_with fail
  refine (exp_eq k true HX.out _).mono ?_
  rintro r w3 ⟨rfl, rfl⟩
  go_wp2_with fail
  refine (rest_any g t k 1 _ hr2 HS.out).mono ?_
  rintro r w3 ⟨v, rfl, ⟨A, cc, rfl, hI, hB⟩, hr3, hu3⟩
  obtain ⟨⟨k', d', xs', t'⟩, a', e'⟩ := q
  try simp only at hq
  have HQ := Lib.hid hq
  rw [hq] at hI hr3 hB
  try simp only [hq] at *
  clear hq
  have HU3 := Lib.hid hu3
  have HI := Lib.hid hI
  have HBB := Lib.hid hB
  have HZ3 := Lib.hid (hu3.blk (HU2.out.blk HZ1.out (by omega)) (by omega))
  have HX3 : Hid (Ext w w3) := Lib.hid ((HX1.out.upd HU2.out (by omega)).upd hu3 (by omega))
  have hz3 := HX3.out.size
  have hz2 := Nat.lt_of_lt_of_le (blk_lt HZ1.out) HU2.out.size
  clear HU2 HU3
  have HR3 := Lib.hid (hr3.ext ((Ext.refl w3).alloc (.cells #[.int .i64 k', .int .i64 d', .slice A xs'.length cc, .string t'] 41)))
  clear hr2 hr3 hu3 hI hB
  obtain rfl : e' = 0 := HE.out
  go_wp2_with fail
  refine (err_ok _ _ _ _ HR3.out).mono ?_
  rintro r w4 ⟨rfl, rfl⟩
  go_wp2
  have HBN : Hid (((w3.alloc (.cells #[.int .i64 k', .int .i64 d', .slice A xs'.length cc, .string t'] 41))).drew.heap[w3.heap.size]? = some (.cells #[.int .i64 k', .int .i64 d', .slice A xs'.length cc, .string t'] 41 (0, 0))) := Lib.hid (blk_new w3 _)
  have HZ4 : Hid (((w3.alloc (.cells #[.int .i64 k', .int .i64 d', .slice A xs'.length cc, .string t'] 41))).drew.heap[w.heap.size]? = some ((.cells #[.int .i64 0, .int .i64 0, .slice none 0 0, .string ⟨#[]⟩] 41))) := Lib.hid (blk_alloc HZ3.out _)
  have HR4 : Hid (RD ((w3.alloc (.cells #[.int .i64 k', .int .i64 d', .slice A xs'.length cc, .string t'] 41))).drew g t a' 0) := Lib.hid (RD.drew HR3.out)
  have HX4 : Hid (Ext w ((w3.alloc (.cells #[.int .i64 k', .int .i64 d', .slice A xs'.length cc, .string t'] 41))).drew) := Lib.hid ((HX3.out.alloc _).drew)
  have HI4 : Hid (IntsAt ((w3.alloc (.cells #[.int .i64 k', .int .i64 d', .slice A xs'.length cc, .string t'] 41))).drew (.slice A xs'.length cc) xs') := Lib.hid (HI.out.ext ((Ext.refl w3).alloc _).drew)
  have hwr : IntKind.i64.wrap ((a : Int) + a') = (a : Int) + a' := IntWalk.i64_in _ (by omega)
  generalize hq3 : ((w3.alloc (.cells #[.int .i64 k', .int .i64 d', .slice A xs'.length cc, .string t'] 41))).drew = w4 at *
  have HU : Cov (fun v => v = w4) (fun v => v = w4) [] := ⟨fun _ h => h, fun p hp => by simp at hp⟩
  have HU : (∀ v, v = w4 → v = w4) ∧ ∀ p ∈ [((5 : Nat), DT5 w k' d' A cc xs' t')], p.1 = 5 ∨ ∀ u v, p.2 u v → v = w4 := ⟨fun _ h => h, fun p hp => by rw [List.mem_singleton] at hp; subst hp; exact .inl rfl⟩
  refine region_ph (fun v => v = w4) [(5, DT5 w k' d' A cc xs' t')] (by kernel_rfl) hq3 ?_
  have HW4 := Lib.hid hq3
  clear hq3
  have K0 : ∀ v, v = w4 → v.cell? ⟨w3.heap.size, 0, none⟩ = some (.int .i64 k') := fun v hv => by subst hv; exact blk_cell HBN.out 0 _ rfl
  have K1 : ∀ v, v = w4 → v.cell? ⟨w3.heap.size, 1, none⟩ = some (.int .i64 d') := fun v hv => by subst hv; exact blk_cell HBN.out 1 _ rfl
  have K2 : ∀ v, v = w4 → v.cell? ⟨w3.heap.size, 2, none⟩ = some (.slice A xs'.length cc) := fun v hv => by subst hv; exact blk_cell HBN.out 2 _ rfl
  have K3 : ∀ v, v = w4 → v.cell? ⟨w3.heap.size, 3, none⟩ = some (.string t') := fun v hv => by subst hv; exact blk_cell HBN.out 3 _ rfl
  refine ph_take2 _ HU (i := 0) (v := ?_) rfl (by kernel_rfl) (by kernel_rfl) (by kernel_rfl) (by kernel_rfl) (by kernel_rfl) (by kernel_rfl) (fun _ _ _ h => h) (Still.yes (by kernel_rfl) fun w hS => ?_) ?_
  rotate_left 1
  · skip
    go_simp
    refine gives_mk ?_ rfl
    with_reducible rfl
  refine ph_take (Cov.triv _ _) (i := 1) (v := ?_) rfl (by kernel_rfl) (by kernel_rfl) (by kernel_rfl) (by kernel_rfl) (fun _ _ _ h => h) (Still.yes (by kernel_rfl) fun w hS => ?_) ?_
  rotate_left 1
  · skip
    go_simp
    refine gives_mk ?_ rfl
    with_reducible rfl
  refine ph_take2 _ HU (i := 2) (v := ?_) rfl (by kernel_rfl) (by kernel_rfl) (by kernel_rfl) (by kernel_rfl) (by kernel_rfl) (by kernel_rfl) (fun _ _ _ h => h) (Still.yes (by kernel_rfl) fun w hS => ?_) ?_
  rotate_left 1
  · skip
    go_simp
    refine gives_mk ?_ rfl
    with_reducible rfl
  refine ph_take2 _ HU (i := 3) (v := .int .i64 a') rfl (by kernel_rfl) (by kernel_rfl) (by kernel_rfl) (by kernel_rfl) (by kernel_rfl) (by kernel_rfl) (fun _ _ _ h => h) (Still.yes (by kernel_rfl) fun w hS => ?_) ?_
  · go_simp
    refine gives_call ((at_any g t a' 0 _ (hS ▸ HR4.out)).mono ?_)
    exact fun r w2 ⟨he, hx⟩ => ⟨he, hx.symm⟩
  refine ph_take (Cov.triv _ _) (i := 4) (v := ?_) rfl (by kernel_rfl) (by kernel_rfl) (by kernel_rfl) (by kernel_rfl) (fun _ _ _ h => h) (Still.yes (by kernel_rfl) fun w hS => ?_) ?_
  rotate_left 1
  · skip
    go_simp
    try simp only [hwr]
    refine gives_mk ?_ rfl
    with_reducible rfl
  refine ph_skip (by kernel_rfl) rfl (by kernel_rfl) (fun v hv => ?_) ?_
  · subst hv
    have hzb := HZ4.out
    have z0 := blk_cell hzb 0 (.int .i64 0) rfl
    have z1 := blk_cell hzb 1 (.int .i64 0) rfl
    have z2 := blk_cell hzb 2 (.slice none 0 0) rfl
    have z3 := blk_cell hzb 3 (.string ⟨#[]⟩) rfl
    have y0 := frozen_of_row _ _ 0 _ _ hzb
    have y1 := frozen_of_row _ _ 1 _ _ hzb
    have y2 := frozen_of_row _ _ 2 _ _ hzb
    have y3 := frozen_of_row _ _ 3 _ _ hzb
    have HZB := Lib.hid hzb
    clear hzb
    have e0 := K0 _ rfl
    have e1 := K1 _ rfl
    have e2 := K2 _ rfl
    have e3 := K3 _ rfl
    clear K0 K1 K2 K3 HU
    go_simp
    refine ⟨blk_set (blk_set (blk_set (blk_set HZB.out 0 (.int .i64 k')) 1 (.int .i64 d')) 2 (.slice A xs'.length cc)) 3 (.string t'), ?_, HX4.out.set4 _ _ _ _⟩
    have far : ∀ A' c' b o, Value.slice A xs'.length cc = .slice A' xs'.length c' → 0 < xs'.length → A' = some ⟨b, o, none⟩ → b ≠ w.heap.size := fun A' c' b o hv h0 hA => by
      simp only [Value.slice.injEq, true_and] at hv
      have := HBB.out b o h0 (hv.1.trans hA)
      omega
    exact ints_set (ints_set (ints_set (ints_set HI4.out far 0 _) far 1 _) far 2 _) far 3 _
  refine ph_take (Cov.triv _ _) (i := 6) (v := ?_) rfl (by kernel_rfl) (by kernel_rfl) (by kernel_rfl) (by kernel_rfl) (fun _ _ _ h => h) (Still.yes (by kernel_rfl) fun w hS => ?_) ?_
  rotate_left 1
  · skip
    go_simp
    refine gives_mk ?_ rfl
    with_reducible rfl
  refine ph_take (Cov.triv _ _) (i := 7) (v := ?_) rfl (by kernel_rfl) (by kernel_rfl) (by kernel_rfl) (by kernel_rfl) (fun _ _ _ h => h) (Still.yes (by kernel_rfl) fun w hS => ?_) ?_
  rotate_left 1
  · skip
    go_simp
    refine gives_mk ?_ rfl
    with_reducible rfl
  refine ph_done ?_ ?_ _
  · kernel_rfl
  intro w5 hw5
  clear K0 K1 K2 K3 HU
  obtain ⟨hzz, hI5, hx5⟩ := hw5
  have HI5 := Lib.hid hI5
  have t0 := blk_cell hzz 0 (.int .i64 k') rfl
  have t1 := blk_cell hzz 1 (.int .i64 d') rfl
  have t2 := blk_cell hzz 2 (.slice A xs'.length cc) rfl
  have t3 := blk_cell hzz 3 (.string t') rfl
  clear hzz hI5
  go_simp
  go_wp2
  refine bodyPost_ret (v := .tuple #[.agg #[.int .i64 k', .int .i64 d', .slice A xs'.length cc, .string t'], .int .i64 ((a : Int) + a'), .int .i64 0]) (by simp [results, Try.results30, go_sem, t0, t1, t2, t3]) rfl ⟨_, rfl, ⟨A, cc, rfl, HI5.out, fun b o h0 hA => by have := HBB.out b o h0 hA; omega⟩, hx5⟩

theorem Ev.dec_size {L : List UInt8} (h : (Ev.dec L).2.2 = 0) : (Ev.dec L).2.1 ≤ L.length := by
  rcases ht : Ev.dec L with ⟨e, k, x⟩
  rw [ht] at h
  simp only at h
  subst h
  obtain ⟨_, _, h1, r, h2⟩ := Ev.dec_ok ht
  rw [h2, List.length_append]; simp only; omega
theorem decode_any (s : ByteArray) (a : Int) (w : World) (hs : s.size ≤ maxLen) : Calls Try.prog 30 #[.string s, .int .i64 a] w (DecPost (Ev.decP s a) w) := by
  by_cases h : a < 0 ∨ (s.size : Int) < a
  · rw [show Ev.decP s a = (Ev.zero, 0, 1) by unfold Ev.decP; rw [if_pos h]]
    exact decode_out s a w h
  · obtain ⟨k, rfl⟩ := Int.eq_ofNat_of_zero_le (show 0 ≤ a by omega)
    have hk : k ≤ s.size := by omega
    cases hl : s.data.toList.drop k with
    | nil =>
      rw [Ev.decP_err s k hk (by rw [hl]; simp [Ev.dec]), hl]
      exact decode_short s k w hs hk hl
    | cons c T =>
      have hT : (s.extract k s.size).data.toList = c :: T := by rw [extract_drop, hl]
      by_cases hko : (Ki.known c.toNat || Ki.exp c.toNat) = true
      · obtain ⟨r1, r2⟩ := Ev.rest_dec _ c T hT hko
        by_cases he : (Ev.dec (c :: T)).2.2 = 0
        · have hq := r1 he
          have hz := Ev.dec_size he
          rw [Ev.decP_nat s k hk, hl, if_pos he]
          have hln : (c :: T).length ≤ s.size - k := by
            have := congrArg List.length hl
            rw [List.length_drop] at this
            simp at this ⊢; omega
          rw [he]
          cases hkn : Ki.known c.toNat with
          | true => exact decode_ok s k w hs hk c T hl hkn _ hq rfl (by simp) (by simp only; omega)
          | false => exact decode_exp s k w hs hk c T hl hkn (by rw [hkn] at hko; simpa using hko) _ hq rfl (by simp) (by simp only; omega)
        · rw [Ev.decP_err s k hk (by rw [hl]; exact he), hl, ← r2 he]
          refine decode_err s k w hs hk c T hl (Ki.known c.toNat) rfl (fun h => by rw [h] at hko; simpa using hko) _ rfl ?_
          rw [r2 he]; omega
      · have hko' : Ki.known c.toNat = false ∧ Ki.exp c.toNat = false := by simpa using hko
        have hd : (Ev.dec (c :: T)).2.2 = 30 := by simp only [Ev.dec]; rw [if_neg hko]
        rw [Ev.decP_err s k hk (by rw [hl, hd]; decide), hl, hd]
        exact decode_kind s k w hs hk c T hl hko'.1 hko'.2

end Go.Proofs.Ytlbhpgieehallaa
