/-
  The walk of the statement RingHalf.
-/
import Derived.Test.YtdpmogbibmgolaaNn
import Derived.Test.YtdpmogbibmgolaaGe
set_option linter.unusedVariables false
set_option linter.unusedSimpArgs false
namespace Go.Proofs.Ytdpmogbibmgolaa
open Go.RowKit
theorem Ri.takes_holds : ∀ (k : Nat) (r : Ri) (l o : List Int), r.Holds l → k ≤ l.length → ∃ r', Ri.takes k r o = (r', o ++ l.take k) ∧ r'.Holds (l.drop k)
  | 0, r, l, o, h, _ => ⟨r, by simp [Ri.takes], by simpa using h⟩
  | k + 1, r, [], o, h, hk => by simp at hk
  | k + 1, r, g :: l, o, h, hk => by
    obtain ⟨r', h1, h2⟩ := Ri.holds_pop h
    obtain ⟨r'', h3, h4⟩ := Ri.takes_holds k r' l (o ++ [g]) h2 (by simpa using hk)
    refine ⟨r'', ?_, by simpa using h4⟩
    unfold Ri.takes
    rw [h1, h3]
    simp
theorem Ri.half_holds {r : Ri} {l : List Int} (h : r.Holds l) : ∃ r', Ri.half r = (r', l.take ((l.length + 1) / 2)) ∧ r'.Holds (l.drop ((l.length + 1) / 2)) := by
  obtain ⟨r', h1, h2⟩ := Ri.takes_holds ((l.length + 1) / 2) r l [] h (by omega)
  refine ⟨r', ?_, h2⟩
  unfold Ri.half
  rw [if_pos (Ri.may_of h), (Ri.holds_n h).1]
  simpa using h1
set_option maxRecDepth 100000 in
set_option maxHeartbeats 1000000 in
theorem rhalfw_out (b0 b1 b2 b3 b4 b5 b6 b7 hd nn : Int) (hm : Ri.may ⟨[b0, b1, b2, b3, b4, b5, b6, b7], hd, nn⟩ = false) (w : World) :
    Calls Try.prog 4 #[.agg #[.int .i64 b0, .int .i64 b1, .int .i64 b2, .int .i64 b3, .int .i64 b4, .int .i64 b5, .int .i64 b6, .int .i64 b7, .int .i64 hd, .int .i64 nn]] w fun e w' => e = .returned (.bool true) ∧ Ext w w' := by
  have HM := Lib.hid hm
  have HB := Lib.hid (blk_new w (.cells #[.int .i64 b0, .int .i64 b1, .int .i64 b2, .int .i64 b3, .int .i64 b4, .int .i64 b5, .int .i64 b6, .int .i64 b7, .int .i64 hd, .int .i64 nn] 24))
  clear hm
  go_enter Try.func4, Try.ntmps4
  go_wp2_with fail
  refine (rgfixed_yes _).mono ?_
  rintro r w1 ⟨rfl, hx1⟩
  obtain ⟨⟨q0, q1, q2, q3, q4⟩, q5, q6, q7, q8, q9⟩ := cells10 (hx1.blk HB.out)
  go_wp2_with fail
  refine (rrmay_k b0 b1 b2 b3 b4 b5 b6 b7 hd nn _ HM.out _).mono ?_
  rintro r w2 ⟨rfl, hx2⟩
  clear q0 q1 q2 q3 q4 q5 q6 q7 q8 q9
  go_wp2_with fail
  refine (rgfixed_yes _).mono ?_
  rintro r w3 ⟨rfl, hx3⟩
  go_wp2
  go_ret
  exact ⟨rfl, (((Ext.refl w).alloc _).trans hx1).trans (hx2.trans hx3)⟩
set_option maxRecDepth 100000 in
set_option maxHeartbeats 3000000 in
theorem rhalfw_in (b0 b1 b2 b3 b4 b5 b6 b7 hd nn : Int) (l : List Int) (hh : Ri.Holds ⟨[b0, b1, b2, b3, b4, b5, b6, b7], hd, nn⟩ l) (w : World) :
    Calls Try.prog 4 #[.agg #[.int .i64 b0, .int .i64 b1, .int .i64 b2, .int .i64 b3, .int .i64 b4, .int .i64 b5, .int .i64 b6, .int .i64 b7, .int .i64 hd, .int .i64 nn]] w fun e w' => e = .returned (.bool true) ∧ Ext w w' := by
  have HM := Lib.hid (Ri.may_of hh)
  have HL := Lib.hid (Ri.list_of hh)
  have hn8 := (Ri.holds_n hh).2
  obtain ⟨r', h1, h2⟩ := Ri.half_holds hh
  obtain ⟨e0, e1, e2, e3, e4, e5, e6, e7, eh, en, rfl⟩ := Ri.open8 (Ri.holds_len h2)
  have HM2 := Lib.hid (Ri.may_of h2)
  have HL2 := Lib.hid (Ri.list_of h2)
  have HCAT := Lib.hid (List.take_append_drop ((l.length + 1) / 2) l)
  have hl1 : (l.take ((l.length + 1) / 2)).length = (l.length + 1) / 2 := by rw [List.length_take]; omega
  have hl2 : (l.drop ((l.length + 1) / 2)).length = l.length - (l.length + 1) / 2 := List.length_drop
  have hcase : (l.take ((l.length + 1) / 2)).length = (l.drop ((l.length + 1) / 2)).length ∨ (l.take ((l.length + 1) / 2)).length ≠ (l.drop ((l.length + 1) / 2)).length ∧ (l.take ((l.length + 1) / 2)).length = (l.drop ((l.length + 1) / 2)).length + 1 := by rw [hl1, hl2]; omega
  generalize l.take ((l.length + 1) / 2) = m at *
  generalize l.drop ((l.length + 1) / 2) = q at *
  have hm8 : m.length ≤ 8 := by omega
  have hq8 : q.length ≤ 8 := by omega
  have HH := Lib.hid h1
  have HCASE := Lib.hid hcase
  have HB := Lib.hid (blk_new w (.cells #[.int .i64 b0, .int .i64 b1, .int .i64 b2, .int .i64 b3, .int .i64 b4, .int .i64 b5, .int .i64 b6, .int .i64 b7, .int .i64 hd, .int .i64 nn] 24))
  clear hh h1 h2 hl1 hl2 hcase
  go_enter Try.func4, Try.ntmps4
  go_wp2_with fail
  refine (rgfixed_yes _).mono ?_
  rintro r w1 ⟨rfl, hx1⟩
  obtain ⟨⟨q0, q1, q2, q3, q4⟩, q5, q6, q7, q8, q9⟩ := cells10 (hx1.blk HB.out)
  go_wp2_with fail
  refine (rrmay_k b0 b1 b2 b3 b4 b5 b6 b7 hd nn _ HM.out _).mono ?_
  rintro r w2 ⟨rfl, hx2⟩
  clear q0 q1 q2 q3 q4 q5 q6 q7 q8 q9
  have HB2 := Lib.hid (hx2.blk (hx1.blk HB.out))
  have HX2 := Lib.hid ((((Ext.refl w).alloc (.cells #[.int .i64 b0, .int .i64 b1, .int .i64 b2, .int .i64 b3, .int .i64 b4, .int .i64 b5, .int .i64 b6, .int .i64 b7, .int .i64 hd, .int .i64 nn] 24)).trans hx1).trans hx2)
  clear hx1 hx2 HB
  obtain ⟨⟨q0, q1, q2, q3, q4⟩, q5, q6, q7, q8, q9⟩ := cells10 HB2.out
  go_wp2_with fail
  refine (rhalf_k b0 b1 b2 b3 b4 b5 b6 b7 hd nn e0 e1 e2 e3 e4 e5 e6 e7 eh en m HH.out _).mono ?_
  rintro r w3 ⟨A3, c3, rfl, hi3, hx3⟩
  clear q0 q1 q2 q3 q4 q5 q6 q7 q8 q9
  have HB3 := Lib.hid (blk_alloc (hx3.blk HB2.out) (.cells #[.int .i64 e0, .int .i64 e1, .int .i64 e2, .int .i64 e3, .int .i64 e4, .int .i64 e5, .int .i64 e6, .int .i64 e7, .int .i64 eh, .int .i64 en] 24))
  have HN3 := Lib.hid (blk_new w3 (.cells #[.int .i64 e0, .int .i64 e1, .int .i64 e2, .int .i64 e3, .int .i64 e4, .int .i64 e5, .int .i64 e6, .int .i64 e7, .int .i64 eh, .int .i64 en] 24))
  have HI3 := Lib.hid (hi3.ext ((Ext.refl w3).alloc (.cells #[.int .i64 e0, .int .i64 e1, .int .i64 e2, .int .i64 e3, .int .i64 e4, .int .i64 e5, .int .i64 e6, .int .i64 e7, .int .i64 eh, .int .i64 en] 24)))
  have HX3 := Lib.hid ((HX2.out.trans hx3).alloc (.cells #[.int .i64 e0, .int .i64 e1, .int .i64 e2, .int .i64 e3, .int .i64 e4, .int .i64 e5, .int .i64 e6, .int .i64 e7, .int .i64 eh, .int .i64 en] 24))
  clear hx3 hi3 HB2 HX2
  obtain ⟨⟨q0, q1, q2, q3, q4⟩, q5, q6, q7, q8, q9⟩ := cells10 HN3.out
  go_wp2_with fail
  refine (rlist_k e0 e1 e2 e3 e4 e5 e6 e7 eh en q HL2.out _).mono ?_
  rintro r w4 ⟨v4, rfl, hi4, hx4⟩
  clear q0 q1 q2 q3 q4 q5 q6 q7 q8 q9
  obtain ⟨A4, c4, rfl, hi4'⟩ := hi4
  have HI4 : Hid (IntsAt w4 (.slice A4 q.length c4) q) := Lib.hid ⟨A4, c4, rfl, hi4'⟩
  have HI34 := Lib.hid (HI3.out.ext hx4)
  have HB4 := Lib.hid (hx4.blk HB3.out)
  have HN4 := Lib.hid (hx4.blk HN3.out)
  have HX4 := Lib.hid (HX3.out.trans hx4)
  clear hx4 hi4' HB3 HN3 HI3 HX3
  go_wp2
  have HKB := Lib.hid fun (v : World) (hv : Ext w4 v) => cells10 (hv.blk HB4.out)
  have HK := Lib.hid fun (v : World) (hv : Ext w4 v) => cells10 (hv.blk HN4.out)
  have hl : m ++ q = l := HCAT.out
  rcases HCASE.out with hc | ⟨hc1, hc2⟩
  · have hcb : ((m.length : Int) == (q.length : Int)) = true := by simp [hc]
    have HLEN := Lib.hid hl
    clear hc hl
    refine region_rgw ([(1, (fun u => u = .bool true : Value → Prop), (fun _ _ => True : (Nat → GV) → World → Prop)), (3, (fun u => ∃ g, u = .slice (some ⟨g, 0, none⟩) 0 0 : Value → Prop), (fun u w => OwnG w4 w (u 3).v [] [u 3] : (Nat → GV) → World → Prop)), (5, (fun u => ∃ A c, u = .slice A m.length c : Value → Prop), (fun u w => OwnG w4 w (u 5).v m [u 5, u 3] : (Nat → GV) → World → Prop)), (7, (fun u => ∃ A c, u = .slice A (m.length + q.length) c : Value → Prop), (fun u w => OwnG w4 w (u 7).v (m ++ q) [u 7, u 5, u 3] : (Nat → GV) → World → Prop)), (9, (fun u => ∃ A c, u = .slice A l.length c : Value → Prop), (fun u w => OwnG w4 w (u 9).v l [u 9] : (Nat → GV) → World → Prop)), (10, (fun u => u = .bool true : Value → Prop), (fun _ _ => True : (Nat → GV) → World → Prop))]) (w4) ([(5, 0, [3]), (7, m.length, [5, 3])]) (by kernel_rfl) (by kernel_rfl) ?_ ?_ ?_ ?_
    · exact List.forall_mem_cons.2 ⟨List.forall_mem_cons.2 ⟨by kernel_rfl, List.forall_mem_nil _⟩, List.forall_mem_cons.2 ⟨List.forall_mem_cons.2 ⟨by kernel_rfl, List.forall_mem_cons.2 ⟨by kernel_rfl, List.forall_mem_nil _⟩⟩, List.forall_mem_nil _⟩⟩
    · exact List.forall_mem_cons.2 ⟨⟨⟨_, rfl⟩, fun _ _ _ _ _ => trivial, fun _ _ _ _ _ => trivial, List.forall_mem_cons.2 ⟨fun _ _ _ _ _ _ _ _ => trivial, List.forall_mem_cons.2 ⟨fun _ _ _ _ _ _ _ _ => trivial, List.forall_mem_nil _⟩⟩⟩, List.forall_mem_cons.2 ⟨⟨⟨_, 0, rfl⟩, fun u v w h ht => by show (fun u w => OwnG w4 w (u 3).v [] [u 3] : (Nat → GV) → World → Prop) v w; dsimp only; rw [← h 3 (.inl rfl) (by kernel_rfl)]; exact ht, fun u w w2 hx ht => ht.ext hx, List.forall_mem_cons.2 ⟨fun _ hp => by first | (intro u w w2 hap hc ht; refine ht.chg hc ?_; simp; done) | exact rg_vac hp (by kernel_rfl), List.forall_mem_cons.2 ⟨fun _ hp => by first | (intro u w w2 hap hc ht; refine ht.chg hc ?_; simp; done) | exact rg_vac hp (by kernel_rfl), List.forall_mem_nil _⟩⟩⟩, List.forall_mem_cons.2 ⟨⟨⟨_, none, 0, rfl⟩, fun u v w h ht => by show (fun u w => OwnG w4 w (u 5).v m [u 5, u 3] : (Nat → GV) → World → Prop) v w; dsimp only; rw [← h 5 (.inl rfl) (by kernel_rfl), ← h 3 (.inr (by kernel_rfl)) (by kernel_rfl)]; exact ht, fun u w w2 hx ht => ht.ext hx, List.forall_mem_cons.2 ⟨fun hne => absurd rfl hne, List.forall_mem_cons.2 ⟨fun _ hp => by first | (intro u w w2 hap hc ht; refine ht.chg hc ?_; simp; done) | exact rg_vac hp (by kernel_rfl), List.forall_mem_nil _⟩⟩⟩, List.forall_mem_cons.2 ⟨⟨⟨_, none, 0, rfl⟩, fun u v w h ht => by show (fun u w => OwnG w4 w (u 7).v (m ++ q) [u 7, u 5, u 3] : (Nat → GV) → World → Prop) v w; dsimp only; rw [← h 7 (.inl rfl) (by kernel_rfl), ← h 5 (.inr (by kernel_rfl)) (by kernel_rfl), ← h 3 (.inr (by kernel_rfl)) (by kernel_rfl)]; exact ht, fun u w w2 hx ht => ht.ext hx, List.forall_mem_cons.2 ⟨fun _ hp => by first | (intro u w w2 hap hc ht; refine ht.chg hc ?_; simp; done) | exact rg_vac hp (by kernel_rfl), List.forall_mem_cons.2 ⟨fun hne => absurd rfl hne, List.forall_mem_nil _⟩⟩⟩, List.forall_mem_cons.2 ⟨⟨⟨_, none, 0, rfl⟩, fun u v w h ht => by show (fun u w => OwnG w4 w (u 9).v l [u 9] : (Nat → GV) → World → Prop) v w; dsimp only; rw [← h 9 (.inl rfl) (by kernel_rfl)]; exact ht, fun u w w2 hx ht => ht.ext hx, List.forall_mem_cons.2 ⟨fun _ hp => by first | (intro u w w2 hap hc ht; (refine ht.far hc ?_; simpa using hap); done) | exact rg_vac hp (by kernel_rfl), List.forall_mem_cons.2 ⟨fun _ hp => by first | (intro u w w2 hap hc ht; (refine ht.far hc ?_; simpa using hap); done) | exact rg_vac hp (by kernel_rfl), List.forall_mem_nil _⟩⟩⟩, List.forall_mem_cons.2 ⟨⟨⟨_, rfl⟩, fun _ _ _ _ _ => trivial, fun _ _ _ _ _ => trivial, List.forall_mem_cons.2 ⟨fun _ _ _ _ _ _ _ _ => trivial, List.forall_mem_cons.2 ⟨fun _ _ _ _ _ _ _ _ => trivial, List.forall_mem_nil _⟩⟩⟩, List.forall_mem_nil _⟩⟩⟩⟩⟩⟩
    · first | assumption | exact Ext.refl _
    refine rg_pure (v := ?_) rfl (by kernel_rfl) (by kernel_rfl) (fun w hS hN => ?_) ?_
    rotate_left 1
    · obtain ⟨⟨k0, k1, k2, k3, k4⟩, k5, k6, k7, k8, k9⟩ := HK.out w hS
      clear hN
      go_simp
      try simp only [hcb]
      refine givesP_mk ?_
      with_reducible rfl
    refine rg_mem (fun u => u = .bool true : Value → Prop) (fun _ _ => True : (Nat → GV) → World → Prop) (fun _ => Ext) rfl rfl rfl rfl (by kernel_rfl) (by kernel_rfl) (fun w hS hN R hR => ?_) ?_
    · have HR := Lib.hid hR
      clear hR
      (try clear hN)
      go_simp
      refine givesM_call ((rmay_eq e0 e1 e2 e3 e4 e5 e6 e7 eh en true HM2.out w).mono ?_)
      rintro e w' ⟨rfl, hx⟩
      exact ⟨_, rfl, HR.out _ _ rfl trivial hx⟩
    rintro u1 s1 t1 rfl
    refine rg_pure (v := ?_) rfl (by kernel_rfl) (by kernel_rfl) (fun w hS hN => ?_) ?_
    rotate_left 1
    · clear hN
      go_simp
      try simp only [hcb]
      refine givesP_mk ?_
      with_reducible rfl
    refine rg_mem (fun u => ∃ g, u = .slice (some ⟨g, 0, none⟩) 0 0 : Value → Prop) (fun u w => OwnG w4 w (u 3).v [] [u 3] : (Nat → GV) → World → Prop) (fun _ => Ext) rfl rfl rfl rfl (by kernel_rfl) (by kernel_rfl) (fun w hS hN R hR => ?_) ?_
    · have HR := Lib.hid hR
      clear hR
      (try clear hN)
      go_simp
      exact givesM_val (HR.out _ _ ⟨_, rfl⟩ (OwnG.made hS _) ((Ext.refl w).alloc _))
    rintro u3 s3 t3 ⟨g3, rfl⟩
    refine rg_pure (v := ?_) rfl (by kernel_rfl) (by kernel_rfl) (fun w hS hN => ?_) ?_
    rotate_left 1
    · clear hN
      go_simp
      try simp only [hcb]
      refine givesP_mk ?_
      with_reducible rfl
    refine rg_mem (fun u => ∃ A c, u = .slice A m.length c : Value → Prop) (fun u w => OwnG w4 w (u 5).v m [u 5, u 3] : (Nat → GV) → World → Prop) (fun u => ChgIn (w4) (0) ([3].map u)) rfl rfl rfl rfl (by kernel_rfl) (by kernel_rfl) (fun w hS hN R hR => ?_) ?_
    · have HR := Lib.hid hR
      clear hR
      have h3 : OwnG w4 w (.slice (some ⟨g3, 0, none⟩) 0 0) [] _ := hN.get 3 rfl (by kernel_rfl)
      obtain ⟨u', w', hr, ⟨A', c', rfl⟩, ho, hin, hc⟩ := OwnInts.append_chg 25 hS h3.1 h3.2 (HI34.out.ext hS) (by simp; omega)
      simp only [List.length_nil, Nat.zero_add, List.nil_append] at hr ho hin hc
      refine givesM_append _ _ 25 rfl _ _ (by go_simp) (by go_simp) hr ?_
      exact HR.out _ _ ⟨_, _, rfl⟩ ⟨ho, hin⟩ hc
    rintro u5 s5 t5 ⟨A5, c5, rfl⟩
    refine rg_pure (v := ?_) rfl (by kernel_rfl) (by kernel_rfl) (fun w hS hN => ?_) ?_
    rotate_left 1
    · clear hN
      go_simp
      try simp only [hcb]
      refine givesP_mk ?_
      with_reducible rfl
    refine rg_mem (fun u => ∃ A c, u = .slice A (m.length + q.length) c : Value → Prop) (fun u w => OwnG w4 w (u 7).v (m ++ q) [u 7, u 5, u 3] : (Nat → GV) → World → Prop) (fun u => ChgIn (w4) (m.length) ([5, 3].map u)) rfl rfl rfl rfl (by kernel_rfl) (by kernel_rfl) (fun w hS hN R hR => ?_) ?_
    · have HR := Lib.hid hR
      clear hR
      have h5 : OwnG w4 w (.slice A5 m.length c5) m _ := hN.get 5 rfl (by kernel_rfl)
      obtain ⟨u', w', hr, ⟨A', c', rfl⟩, ho, hin, hc⟩ := OwnInts.append_chg 25 hS h5.1 h5.2 (HI4.out.ext hS) (by omega)
      refine givesM_append _ _ 25 rfl _ _ (by go_simp) (by go_simp) hr ?_
      exact HR.out _ _ ⟨_, _, rfl⟩ ⟨ho, hin⟩ hc
    rintro u7 s7 t7 ⟨A7, c7, rfl⟩
    refine rg_pure (v := ?_) rfl (by kernel_rfl) (by kernel_rfl) (fun w hS hN => ?_) ?_
    rotate_left 1
    · obtain ⟨⟨k0, k1, k2, k3, k4⟩, k5, k6, k7, k8, k9⟩ := HKB.out w hS
      clear hN
      go_simp
      try simp only [hcb]
      refine givesP_mk ?_
      with_reducible rfl
    refine rg_mem (fun u => ∃ A c, u = .slice A l.length c : Value → Prop) (fun u w => OwnG w4 w (u 9).v l [u 9] : (Nat → GV) → World → Prop) (fun _ => Ext) rfl rfl rfl rfl (by kernel_rfl) (by kernel_rfl) (fun w hS hN R hR => ?_) ?_
    · have HR := Lib.hid hR
      clear hR
      (try clear hN)
      go_simp
      refine givesM_call ((rrlist_k b0 b1 b2 b3 b4 b5 b6 b7 hd nn l HL.out w).mono ?_)
      rintro e w' ⟨v, rfl, ho, hx⟩
      obtain ⟨A', c', rfl⟩ := OwnInts.form ho
      exact ⟨_, rfl, HR.out _ _ ⟨_, _, rfl⟩ ⟨OwnInts.lower ho hS.size, InB.of_lt fun k hk => World.ownsRow.lt ho k hk⟩ hx⟩
    rintro u9 s9 t9 ⟨A9, c9, rfl⟩
    refine rg_mem (fun u => u = .bool true : Value → Prop) (fun _ _ => True : (Nat → GV) → World → Prop) (fun _ => Ext) rfl rfl rfl rfl (by kernel_rfl) (by kernel_rfl) (fun w hS hN R hR => ?_) ?_
    · have HR := Lib.hid hR
      clear hR
      have h7 : OwnG w4 w (.slice A7 (m.length + q.length) c7) (m ++ q) _ := hN.get 7 rfl (by kernel_rfl)
      have h9 : OwnG w4 w (.slice A9 l.length c9) l _ := hN.get 9 rfl (by kernel_rfl)
      (try clear hN)
      go_simp
      have i7 := h7.ints
      rw [List.length_append, HLEN.out] at i7
      refine givesM_call ((rints_self' _ _ l w i7 h9.ints (by omega)).mono ?_)
      rintro e w' ⟨rfl, hx⟩
      exact ⟨_, rfl, HR.out _ _ rfl trivial hx⟩
    rintro u10 s10 t10 rfl
    refine rg_pure (v := ?_) rfl (by kernel_rfl) (by kernel_rfl) (fun w hS hN => ?_) ?_
    rotate_left 1
    · clear hN
      go_simp
      try simp only [hcb]
      refine givesP_mk ?_
      with_reducible rfl
    refine rg_pure (v := ?_) rfl (by kernel_rfl) (by kernel_rfl) (fun w hS hN => ?_) ?_
    rotate_left 1
    · clear hN
      go_simp
      try simp only [hcb]
      refine givesP_mk ?_
      with_reducible rfl
    refine rg_pure (v := ?_) rfl (by kernel_rfl) (by kernel_rfl) (fun w hS hN => ?_) ?_
    rotate_left 1
    · clear hN
      go_simp
      try simp only [hcb]
      refine givesP_mk ?_
      with_reducible rfl
    refine rg_pure (v := ?_) rfl (by kernel_rfl) (by kernel_rfl) (fun w hS hN => ?_) ?_
    rotate_left 1
    · clear hN
      go_simp
      try simp only [hcb]
      refine givesP_mk ?_
      with_reducible rfl
    refine rg_pure (v := ?_) rfl (by kernel_rfl) (by kernel_rfl) (fun w hS hN => ?_) ?_
    rotate_left 1
    · clear hN
      go_simp
      try simp only [hcb]
      refine givesP_mk ?_
      with_reducible rfl
    refine rg_pure (v := ?_) rfl (by kernel_rfl) (by kernel_rfl) (fun w hS hN => ?_) ?_
    rotate_left 1
    · clear hN
      go_simp
      try simp only [hcb]
      refine givesP_mk ?_
      with_reducible rfl
    refine rg_pure (v := ?_) rfl (by kernel_rfl) (by kernel_rfl) (fun w hS hN => ?_) ?_
    rotate_left 1
    · clear hN
      go_simp
      try simp only [hcb]
      refine givesP_mk ?_
      with_reducible rfl
    refine rg_pure (v := ?_) rfl (by kernel_rfl) (by kernel_rfl) (fun w hS hN => ?_) ?_
    rotate_left 1
    · clear hN
      go_simp
      try simp only [hcb]
      refine givesP_mk ?_
      with_reducible rfl
    refine rg_no rfl (by kernel_rfl) (by kernel_rfl) ?_
    refine rg_no rfl (by kernel_rfl) (by kernel_rfl) ?_
    refine rg_no rfl (by kernel_rfl) (by kernel_rfl) ?_
    refine rg_no rfl (by kernel_rfl) (by kernel_rfl) ?_
    refine rg_no rfl (by kernel_rfl) (by kernel_rfl) ?_
    refine rg_no rfl (by kernel_rfl) (by kernel_rfl) ?_
    refine rg_pure (v := ?_) rfl (by kernel_rfl) (by kernel_rfl) (fun w hS hN => ?_) ?_
    rotate_left 1
    · clear hN
      go_simp
      try simp only [hcb]
      refine givesP_mk ?_
      with_reducible rfl
    refine rg_pure (v := ?_) rfl (by kernel_rfl) (by kernel_rfl) (fun w hS hN => ?_) ?_
    rotate_left 1
    · clear hN
      go_simp
      try simp only [hcb]
      refine givesP_mk ?_
      with_reducible rfl
    refine rg_pure (v := ?_) rfl (by kernel_rfl) (by kernel_rfl) (fun w hS hN => ?_) ?_
    rotate_left 1
    · clear hN
      go_simp
      try simp only [hcb]
      refine givesP_mk ?_
      with_reducible rfl
    refine rg_done rfl (Nat.le_of_ble_eq_true (by kernel_rfl)) ?_
    intro w8 hS hT
    go_simp
    go_wp2
    go_ret
    first | exact ⟨rfl, HX4.out.trans hS⟩ | exact HX4.out.trans hS | (refine ⟨?_, HX4.out.trans hS⟩; simp)
  · have hcb : ((m.length : Int) == (q.length : Int)) = false := by simp; omega
    have hcd : ((m.length : Int) == (q.length : Int) + 1) = true := by simp; omega
    have hw1 : IntKind.i64.wrap ((q.length : Int) + 1) = (q.length : Int) + 1 := IntWalk.i64_in _ (by omega)
    have HLEN := Lib.hid hl
    clear hc1 hc2 hl
    refine region_rgw ([(1, (fun u => u = .bool true : Value → Prop), (fun _ _ => True : (Nat → GV) → World → Prop)), (3, (fun u => ∃ g, u = .slice (some ⟨g, 0, none⟩) 0 0 : Value → Prop), (fun u w => OwnG w4 w (u 3).v [] [u 3] : (Nat → GV) → World → Prop)), (5, (fun u => ∃ A c, u = .slice A m.length c : Value → Prop), (fun u w => OwnG w4 w (u 5).v m [u 5, u 3] : (Nat → GV) → World → Prop)), (7, (fun u => ∃ A c, u = .slice A (m.length + q.length) c : Value → Prop), (fun u w => OwnG w4 w (u 7).v (m ++ q) [u 7, u 5, u 3] : (Nat → GV) → World → Prop)), (9, (fun u => ∃ A c, u = .slice A l.length c : Value → Prop), (fun u w => OwnG w4 w (u 9).v l [u 9] : (Nat → GV) → World → Prop)), (10, (fun u => u = .bool true : Value → Prop), (fun _ _ => True : (Nat → GV) → World → Prop))]) (w4) ([(5, 0, [3]), (7, m.length, [5, 3])]) (by kernel_rfl) (by kernel_rfl) ?_ ?_ ?_ ?_
    · exact List.forall_mem_cons.2 ⟨List.forall_mem_cons.2 ⟨by kernel_rfl, List.forall_mem_nil _⟩, List.forall_mem_cons.2 ⟨List.forall_mem_cons.2 ⟨by kernel_rfl, List.forall_mem_cons.2 ⟨by kernel_rfl, List.forall_mem_nil _⟩⟩, List.forall_mem_nil _⟩⟩
    · exact List.forall_mem_cons.2 ⟨⟨⟨_, rfl⟩, fun _ _ _ _ _ => trivial, fun _ _ _ _ _ => trivial, List.forall_mem_cons.2 ⟨fun _ _ _ _ _ _ _ _ => trivial, List.forall_mem_cons.2 ⟨fun _ _ _ _ _ _ _ _ => trivial, List.forall_mem_nil _⟩⟩⟩, List.forall_mem_cons.2 ⟨⟨⟨_, 0, rfl⟩, fun u v w h ht => by show (fun u w => OwnG w4 w (u 3).v [] [u 3] : (Nat → GV) → World → Prop) v w; dsimp only; rw [← h 3 (.inl rfl) (by kernel_rfl)]; exact ht, fun u w w2 hx ht => ht.ext hx, List.forall_mem_cons.2 ⟨fun _ hp => by first | (intro u w w2 hap hc ht; refine ht.chg hc ?_; simp; done) | exact rg_vac hp (by kernel_rfl), List.forall_mem_cons.2 ⟨fun _ hp => by first | (intro u w w2 hap hc ht; refine ht.chg hc ?_; simp; done) | exact rg_vac hp (by kernel_rfl), List.forall_mem_nil _⟩⟩⟩, List.forall_mem_cons.2 ⟨⟨⟨_, none, 0, rfl⟩, fun u v w h ht => by show (fun u w => OwnG w4 w (u 5).v m [u 5, u 3] : (Nat → GV) → World → Prop) v w; dsimp only; rw [← h 5 (.inl rfl) (by kernel_rfl), ← h 3 (.inr (by kernel_rfl)) (by kernel_rfl)]; exact ht, fun u w w2 hx ht => ht.ext hx, List.forall_mem_cons.2 ⟨fun hne => absurd rfl hne, List.forall_mem_cons.2 ⟨fun _ hp => by first | (intro u w w2 hap hc ht; refine ht.chg hc ?_; simp; done) | exact rg_vac hp (by kernel_rfl), List.forall_mem_nil _⟩⟩⟩, List.forall_mem_cons.2 ⟨⟨⟨_, none, 0, rfl⟩, fun u v w h ht => by show (fun u w => OwnG w4 w (u 7).v (m ++ q) [u 7, u 5, u 3] : (Nat → GV) → World → Prop) v w; dsimp only; rw [← h 7 (.inl rfl) (by kernel_rfl), ← h 5 (.inr (by kernel_rfl)) (by kernel_rfl), ← h 3 (.inr (by kernel_rfl)) (by kernel_rfl)]; exact ht, fun u w w2 hx ht => ht.ext hx, List.forall_mem_cons.2 ⟨fun _ hp => by first | (intro u w w2 hap hc ht; refine ht.chg hc ?_; simp; done) | exact rg_vac hp (by kernel_rfl), List.forall_mem_cons.2 ⟨fun hne => absurd rfl hne, List.forall_mem_nil _⟩⟩⟩, List.forall_mem_cons.2 ⟨⟨⟨_, none, 0, rfl⟩, fun u v w h ht => by show (fun u w => OwnG w4 w (u 9).v l [u 9] : (Nat → GV) → World → Prop) v w; dsimp only; rw [← h 9 (.inl rfl) (by kernel_rfl)]; exact ht, fun u w w2 hx ht => ht.ext hx, List.forall_mem_cons.2 ⟨fun _ hp => by first | (intro u w w2 hap hc ht; (refine ht.far hc ?_; simpa using hap); done) | exact rg_vac hp (by kernel_rfl), List.forall_mem_cons.2 ⟨fun _ hp => by first | (intro u w w2 hap hc ht; (refine ht.far hc ?_; simpa using hap); done) | exact rg_vac hp (by kernel_rfl), List.forall_mem_nil _⟩⟩⟩, List.forall_mem_cons.2 ⟨⟨⟨_, rfl⟩, fun _ _ _ _ _ => trivial, fun _ _ _ _ _ => trivial, List.forall_mem_cons.2 ⟨fun _ _ _ _ _ _ _ _ => trivial, List.forall_mem_cons.2 ⟨fun _ _ _ _ _ _ _ _ => trivial, List.forall_mem_nil _⟩⟩⟩, List.forall_mem_nil _⟩⟩⟩⟩⟩⟩
    · first | assumption | exact Ext.refl _
    refine rg_pure (v := ?_) rfl (by kernel_rfl) (by kernel_rfl) (fun w hS hN => ?_) ?_
    rotate_left 1
    · obtain ⟨⟨k0, k1, k2, k3, k4⟩, k5, k6, k7, k8, k9⟩ := HK.out w hS
      clear hN
      go_simp
      try simp only [hcb, hw1, hcd]
      refine givesP_mk ?_
      with_reducible rfl
    refine rg_mem (fun u => u = .bool true : Value → Prop) (fun _ _ => True : (Nat → GV) → World → Prop) (fun _ => Ext) rfl rfl rfl rfl (by kernel_rfl) (by kernel_rfl) (fun w hS hN R hR => ?_) ?_
    · have HR := Lib.hid hR
      clear hR
      (try clear hN)
      go_simp
      refine givesM_call ((rmay_eq e0 e1 e2 e3 e4 e5 e6 e7 eh en true HM2.out w).mono ?_)
      rintro e w' ⟨rfl, hx⟩
      exact ⟨_, rfl, HR.out _ _ rfl trivial hx⟩
    rintro u1 s1 t1 rfl
    refine rg_pure (v := ?_) rfl (by kernel_rfl) (by kernel_rfl) (fun w hS hN => ?_) ?_
    rotate_left 1
    · clear hN
      go_simp
      try simp only [hcb, hw1, hcd]
      refine givesP_mk ?_
      with_reducible rfl
    refine rg_mem (fun u => ∃ g, u = .slice (some ⟨g, 0, none⟩) 0 0 : Value → Prop) (fun u w => OwnG w4 w (u 3).v [] [u 3] : (Nat → GV) → World → Prop) (fun _ => Ext) rfl rfl rfl rfl (by kernel_rfl) (by kernel_rfl) (fun w hS hN R hR => ?_) ?_
    · have HR := Lib.hid hR
      clear hR
      (try clear hN)
      go_simp
      exact givesM_val (HR.out _ _ ⟨_, rfl⟩ (OwnG.made hS _) ((Ext.refl w).alloc _))
    rintro u3 s3 t3 ⟨g3, rfl⟩
    refine rg_pure (v := ?_) rfl (by kernel_rfl) (by kernel_rfl) (fun w hS hN => ?_) ?_
    rotate_left 1
    · clear hN
      go_simp
      try simp only [hcb, hw1, hcd]
      refine givesP_mk ?_
      with_reducible rfl
    refine rg_mem (fun u => ∃ A c, u = .slice A m.length c : Value → Prop) (fun u w => OwnG w4 w (u 5).v m [u 5, u 3] : (Nat → GV) → World → Prop) (fun u => ChgIn (w4) (0) ([3].map u)) rfl rfl rfl rfl (by kernel_rfl) (by kernel_rfl) (fun w hS hN R hR => ?_) ?_
    · have HR := Lib.hid hR
      clear hR
      have h3 : OwnG w4 w (.slice (some ⟨g3, 0, none⟩) 0 0) [] _ := hN.get 3 rfl (by kernel_rfl)
      obtain ⟨u', w', hr, ⟨A', c', rfl⟩, ho, hin, hc⟩ := OwnInts.append_chg 25 hS h3.1 h3.2 (HI34.out.ext hS) (by simp; omega)
      simp only [List.length_nil, Nat.zero_add, List.nil_append] at hr ho hin hc
      refine givesM_append _ _ 25 rfl _ _ (by go_simp) (by go_simp) hr ?_
      exact HR.out _ _ ⟨_, _, rfl⟩ ⟨ho, hin⟩ hc
    rintro u5 s5 t5 ⟨A5, c5, rfl⟩
    refine rg_pure (v := ?_) rfl (by kernel_rfl) (by kernel_rfl) (fun w hS hN => ?_) ?_
    rotate_left 1
    · clear hN
      go_simp
      try simp only [hcb, hw1, hcd]
      refine givesP_mk ?_
      with_reducible rfl
    refine rg_mem (fun u => ∃ A c, u = .slice A (m.length + q.length) c : Value → Prop) (fun u w => OwnG w4 w (u 7).v (m ++ q) [u 7, u 5, u 3] : (Nat → GV) → World → Prop) (fun u => ChgIn (w4) (m.length) ([5, 3].map u)) rfl rfl rfl rfl (by kernel_rfl) (by kernel_rfl) (fun w hS hN R hR => ?_) ?_
    · have HR := Lib.hid hR
      clear hR
      have h5 : OwnG w4 w (.slice A5 m.length c5) m _ := hN.get 5 rfl (by kernel_rfl)
      obtain ⟨u', w', hr, ⟨A', c', rfl⟩, ho, hin, hc⟩ := OwnInts.append_chg 25 hS h5.1 h5.2 (HI4.out.ext hS) (by omega)
      refine givesM_append _ _ 25 rfl _ _ (by go_simp) (by go_simp) hr ?_
      exact HR.out _ _ ⟨_, _, rfl⟩ ⟨ho, hin⟩ hc
    rintro u7 s7 t7 ⟨A7, c7, rfl⟩
    refine rg_pure (v := ?_) rfl (by kernel_rfl) (by kernel_rfl) (fun w hS hN => ?_) ?_
    rotate_left 1
    · obtain ⟨⟨k0, k1, k2, k3, k4⟩, k5, k6, k7, k8, k9⟩ := HKB.out w hS
      clear hN
      go_simp
      try simp only [hcb, hw1, hcd]
      refine givesP_mk ?_
      with_reducible rfl
    refine rg_mem (fun u => ∃ A c, u = .slice A l.length c : Value → Prop) (fun u w => OwnG w4 w (u 9).v l [u 9] : (Nat → GV) → World → Prop) (fun _ => Ext) rfl rfl rfl rfl (by kernel_rfl) (by kernel_rfl) (fun w hS hN R hR => ?_) ?_
    · have HR := Lib.hid hR
      clear hR
      (try clear hN)
      go_simp
      refine givesM_call ((rrlist_k b0 b1 b2 b3 b4 b5 b6 b7 hd nn l HL.out w).mono ?_)
      rintro e w' ⟨v, rfl, ho, hx⟩
      obtain ⟨A', c', rfl⟩ := OwnInts.form ho
      exact ⟨_, rfl, HR.out _ _ ⟨_, _, rfl⟩ ⟨OwnInts.lower ho hS.size, InB.of_lt fun k hk => World.ownsRow.lt ho k hk⟩ hx⟩
    rintro u9 s9 t9 ⟨A9, c9, rfl⟩
    refine rg_mem (fun u => u = .bool true : Value → Prop) (fun _ _ => True : (Nat → GV) → World → Prop) (fun _ => Ext) rfl rfl rfl rfl (by kernel_rfl) (by kernel_rfl) (fun w hS hN R hR => ?_) ?_
    · have HR := Lib.hid hR
      clear hR
      have h7 : OwnG w4 w (.slice A7 (m.length + q.length) c7) (m ++ q) _ := hN.get 7 rfl (by kernel_rfl)
      have h9 : OwnG w4 w (.slice A9 l.length c9) l _ := hN.get 9 rfl (by kernel_rfl)
      (try clear hN)
      go_simp
      have i7 := h7.ints
      rw [List.length_append, HLEN.out] at i7
      refine givesM_call ((rints_self' _ _ l w i7 h9.ints (by omega)).mono ?_)
      rintro e w' ⟨rfl, hx⟩
      exact ⟨_, rfl, HR.out _ _ rfl trivial hx⟩
    rintro u10 s10 t10 rfl
    refine rg_pure (v := ?_) rfl (by kernel_rfl) (by kernel_rfl) (fun w hS hN => ?_) ?_
    rotate_left 1
    · clear hN
      go_simp
      try simp only [hcb, hw1, hcd]
      refine givesP_mk ?_
      with_reducible rfl
    refine rg_pure (v := ?_) rfl (by kernel_rfl) (by kernel_rfl) (fun w hS hN => ?_) ?_
    rotate_left 1
    · clear hN
      go_simp
      try simp only [hcb, hw1, hcd]
      refine givesP_mk ?_
      with_reducible rfl
    refine rg_pure (v := ?_) rfl (by kernel_rfl) (by kernel_rfl) (fun w hS hN => ?_) ?_
    rotate_left 1
    · clear hN
      go_simp
      try simp only [hcb, hw1, hcd]
      refine givesP_mk ?_
      with_reducible rfl
    refine rg_pure (v := ?_) rfl (by kernel_rfl) (by kernel_rfl) (fun w hS hN => ?_) ?_
    rotate_left 1
    · clear hN
      go_simp
      try simp only [hcb, hw1, hcd]
      refine givesP_mk ?_
      with_reducible rfl
    refine rg_pure (v := ?_) rfl (by kernel_rfl) (by kernel_rfl) (fun w hS hN => ?_) ?_
    rotate_left 1
    · clear hN
      go_simp
      try simp only [hcb, hw1, hcd]
      refine givesP_mk ?_
      with_reducible rfl
    refine rg_pure (v := ?_) rfl (by kernel_rfl) (by kernel_rfl) (fun w hS hN => ?_) ?_
    rotate_left 1
    · clear hN
      go_simp
      try simp only [hcb, hw1, hcd]
      refine givesP_mk ?_
      with_reducible rfl
    refine rg_pure (v := ?_) rfl (by kernel_rfl) (by kernel_rfl) (fun w hS hN => ?_) ?_
    rotate_left 1
    · clear hN
      go_simp
      try simp only [hcb, hw1, hcd]
      refine givesP_mk ?_
      with_reducible rfl
    refine rg_pure (v := ?_) rfl (by kernel_rfl) (by kernel_rfl) (fun w hS hN => ?_) ?_
    rotate_left 1
    · clear hN
      go_simp
      try simp only [hcb, hw1, hcd]
      refine givesP_mk ?_
      with_reducible rfl
    refine rg_pure (v := ?_) rfl (by kernel_rfl) (by kernel_rfl) (fun w hS hN => ?_) ?_
    rotate_left 1
    · clear hN
      go_simp
      try simp only [hcb, hw1, hcd]
      refine givesP_mk ?_
      with_reducible rfl
    refine rg_pure (v := ?_) rfl (by kernel_rfl) (by kernel_rfl) (fun w hS hN => ?_) ?_
    rotate_left 1
    · clear hN
      go_simp
      try simp only [hcb, hw1, hcd]
      refine givesP_mk ?_
      with_reducible rfl
    refine rg_pure (v := ?_) rfl (by kernel_rfl) (by kernel_rfl) (fun w hS hN => ?_) ?_
    rotate_left 1
    · clear hN
      go_simp
      try simp only [hcb, hw1, hcd]
      refine givesP_mk ?_
      with_reducible rfl
    refine rg_pure (v := ?_) rfl (by kernel_rfl) (by kernel_rfl) (fun w hS hN => ?_) ?_
    rotate_left 1
    · clear hN
      go_simp
      try simp only [hcb, hw1, hcd]
      refine givesP_mk ?_
      with_reducible rfl
    refine rg_pure (v := ?_) rfl (by kernel_rfl) (by kernel_rfl) (fun w hS hN => ?_) ?_
    rotate_left 1
    · clear hN
      go_simp
      try simp only [hcb, hw1, hcd]
      refine givesP_mk ?_
      with_reducible rfl
    refine rg_pure (v := ?_) rfl (by kernel_rfl) (by kernel_rfl) (fun w hS hN => ?_) ?_
    rotate_left 1
    · clear hN
      go_simp
      try simp only [hcb, hw1, hcd]
      refine givesP_mk ?_
      with_reducible rfl
    refine rg_pure (v := ?_) rfl (by kernel_rfl) (by kernel_rfl) (fun w hS hN => ?_) ?_
    rotate_left 1
    · clear hN
      go_simp
      try simp only [hcb, hw1, hcd]
      refine givesP_mk ?_
      with_reducible rfl
    refine rg_pure (v := ?_) rfl (by kernel_rfl) (by kernel_rfl) (fun w hS hN => ?_) ?_
    rotate_left 1
    · clear hN
      go_simp
      try simp only [hcb, hw1, hcd]
      refine givesP_mk ?_
      with_reducible rfl
    refine rg_pure (v := ?_) rfl (by kernel_rfl) (by kernel_rfl) (fun w hS hN => ?_) ?_
    rotate_left 1
    · clear hN
      go_simp
      try simp only [hcb, hw1, hcd]
      refine givesP_mk ?_
      with_reducible rfl
    refine rg_done rfl (Nat.le_of_ble_eq_true (by kernel_rfl)) ?_
    intro w8 hS hT
    go_simp
    go_wp2
    go_ret
    first | exact ⟨rfl, HX4.out.trans hS⟩ | exact HX4.out.trans hS | (refine ⟨?_, HX4.out.trans hS⟩; simp)
theorem walk_RingHalf (b0 b1 b2 b3 b4 b5 b6 b7 hd n : Int) (w : World) (_ : ∀ z ∈ [b0, b1, b2, b3, b4, b5, b6, b7, hd, n], (Lit.int .i64 z).wf = true) :
    Calls Try.prog 4 #[.agg #[.int .i64 b0, .int .i64 b1, .int .i64 b2, .int .i64 b3, .int .i64 b4, .int .i64 b5, .int .i64 b6, .int .i64 b7, .int .i64 hd, .int .i64 n]] w fun e w' => e = .returned (.bool true) ∧ Ext w w' := by
  cases hm : Ri.may ⟨[b0, b1, b2, b3, b4, b5, b6, b7], hd, n⟩ with
  | false => exact rhalfw_out b0 b1 b2 b3 b4 b5 b6 b7 hd n hm w
  | true => exact rhalfw_in b0 b1 b2 b3 b4 b5 b6 b7 hd n _ (Ri.holds_may rfl hm) w

end Go.Proofs.Ytdpmogbibmgolaa
