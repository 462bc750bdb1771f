/-
  The walk of the statement WireReads.
-/
import Derived.Test.YtfmbpajomedfnaaWh
namespace Go.Proofs.Ytfmbpajomedfnaa
open Go.RowKit

/-- A slice of calls: what is done, and a number. -/
def CallsAt (w : World) (A : Option Addr) (len : Nat) (f : Nat → Int × Int) : Prop :=
  0 < len → ∃ b o, A = some ⟨b, o, none⟩ ∧ b < w.heap.size ∧ ∀ j, j < len → w.cell? ⟨b, o + j * 2, none⟩ = some (.int .i64 (f j).1) ∧ w.cell? ⟨b, o + j * 2 + 1, none⟩ = some (.int .i64 (f j).2) ∧ -9223372036854775808 ≤ (f j).2 ∧ (f j).2 ≤ 9223372036854775807

theorem quiet_d {P : Program} {f : FuncId} {args : Array Value} {w : World} {n : Nat} {v : Value} (h : Calls P f args (w.drewN n) fun e w' => e = .returned v ∧ ∃ k, w' = (w.drewN n).drewN k) :
    Calls P f args (w.drewN n) fun e w'' => e = .returned v ∧ ∃ m, w'' = w.drewN m :=
  h.mono fun _ _ ⟨he, k, hw⟩ => ⟨he, n + k, by rw [hw, World.drewN_drewN]⟩
theorem err_any (g : Nat) (s : ByteArray) (a e : Int) (w : World) (h : RD w g s a e) :
    Calls Try.prog 19 #[.pointer (some ⟨g, 0, none⟩)] w fun r w' => r = .returned (.tuple #[.int .i64 e, .int .i64 (Wi.frm a e)]) ∧ ∃ n, w' = w.drewN n := by
  by_cases he : e = 0
  · subst he
    rw [Wi.frm0]
    exact (err_ok g s a w h).mono fun _ _ ⟨h1, h2⟩ => ⟨h1, 0, h2.symm⟩
  · rw [Wi.frm1 he]
    exact err_no g s a e w h he

theorem Wi.take_range (s : ByteArray) (a e n : Int) (h0 : 0 ≤ a) (h1 : a ≤ s.size) : 0 ≤ (Wi.take s a e n).2.1 ∧ (Wi.take s a e n).2.1 ≤ s.size := by
  unfold Wi.take Wi.piece
  split
  · split
    · exact ⟨h0, h1⟩
    · split
      · exact ⟨h0, h1⟩
      · simp only; omega
  · exact ⟨h0, h1⟩
theorem Wi.byte_range (s : ByteArray) (a e : Int) (h0 : 0 ≤ a) (h1 : a ≤ s.size) : 0 ≤ (Wi.byte s a e).2.1 ∧ (Wi.byte s a e).2.1 ≤ s.size := Wi.take_range s a e 1 h0 h1
theorem Wi.num_range (s : ByteArray) (a e : Int) (h0 : 0 ≤ a) (h1 : a ≤ s.size) : 0 ≤ (Wi.num s a e).2.1 ∧ (Wi.num s a e).2.1 ≤ s.size := by
  unfold Wi.num
  split
  · split
    · rename_i hz
      have := Va.t_range s a hz
      exact ⟨this.2.2.1, this.2.2.2⟩
    · exact ⟨h0, h1⟩
  · exact ⟨h0, h1⟩
theorem Wi.text_range (s : ByteArray) (a e : Int) (h0 : 0 ≤ a) (h1 : a ≤ s.size) : 0 ≤ (Wi.text s a e).2.1 ∧ (Wi.text s a e).2.1 ≤ s.size := by
  unfold Wi.text
  split
  · split
    · rename_i hz
      have := Va.t_range s a hz
      unfold Wi.piece
      split
      · exact ⟨h0, h1⟩
      · split
        · exact ⟨h0, h1⟩
        · simp only; omega
    · exact ⟨h0, h1⟩
  · exact ⟨h0, h1⟩

set_option maxRecDepth 100000 in
set_option maxHeartbeats 1000000 in
theorem wreads_out (s : ByteArray) (A : Option Addr) (len cap : Nat) (w : World) (hs : s.size ≤ maxLen) (hl : len ≤ maxLen) (h : 5000 < s.size ∨ 100 < len) :
    Calls Try.prog 3 #[.string s, .slice A len cap] w fun e w' => e = .returned (.bool true) ∧ Ext w w' := by
  unfold maxLen at hs hl
  rcases h with h | h
  all_goals
    go_enter Try.func3, Try.ntmps3
    go_wp2_with (go_at_call 9; refine (wfixed_yes _).mono ?_; rintro e w1 ⟨rfl, hb1⟩)
    all_goals (go_ret; exact ⟨rfl, (by repeat (first | exact Ext.refl _ | assumption | refine Ext.trans (by assumption) ?_))⟩)

set_option maxRecDepth 100000 in
set_option maxHeartbeats 1000000 in
theorem wreads_in (s : ByteArray) (A : Option Addr) (len cap : Nat) (f : Nat → Int × Int) (w : World) (hs : s.size ≤ 5000) (hl : len ≤ 100) (hA : CallsAt w A len f) :
    Calls Try.prog 3 #[.string s, .slice A len cap] w fun e w' => e = .returned (.bool true) ∧ Ext w w' := by
  have HA := Lib.hid hA; clear hA
  have HS : Hid (s.size ≤ maxLen) := Lib.hid (by unfold maxLen; omega)
  go_enter Try.func3, Try.ntmps3
  go_wp2_with fail
  refine (wfixed_yes _).mono ?_
  rintro e w1 ⟨rfl, hx1⟩
  go_wp2_with fail
  refine (new_any s _).mono ?_
  rintro e w3 ⟨rfl, hr3, hx3⟩
  have hg : w.heap.size ≤ w1.heap.size := hx1.size
  have hg2 : w1.heap.size < w3.heap.size := hr3.lt
  have HX : Hid (Ext w w3) := Lib.hid (hx1.trans hx3)
  clear hx1 hx3
  generalize w1.heap.size = g1 at *
  have HR0 := Lib.hid hr3
  clear hr3
  go_wp2_with fail
  have HR1 := Lib.hid (show RD (w3.alloc (.cells #[.string s, .int .i64 0, .int .i64 0, .int .i64 0] 29)) g1 s 0 0 from HR0.out.ext (Ext.alloc (Ext.refl _) _))
  have HR2 := Lib.hid (show RQ (w3.alloc (.cells #[.string s, .int .i64 0, .int .i64 0, .int .i64 0] 29)) w3.heap.size s 0 0 from heap_alloc_new _ _)
  have HX1 := Lib.hid (HX.out.alloc (.cells #[.string s, .int .i64 0, .int .i64 0, .int .i64 0] 29))
  have hg1 : w.heap.size ≤ g1 := hg
  have hg3 : w.heap.size ≤ w3.heap.size := HX.out.size
  clear HX HR0
  generalize w3.alloc (.cells #[.string s, .int .i64 0, .int .i64 0, .int .i64 0] 29) = wq at *
  generalize w3.heap.size = g2 at *
  have hg2' : w.heap.size ≤ g2 := hg3
  clear hg hg3
  have hne : g2 ≠ g1 := by omega
  have hne' : g1 ≠ g2 := by omega
  have HNE := Lib.hid (And.intro hne hne')
  clear hne hne' hg2
  go_loopw [7] (fun i wr => ∃ (k : Nat) (a e : Int), k ≤ len ∧ i = .int .i64 k ∧ 0 ≤ a ∧ a ≤ s.size ∧ RD wr g1 s a e ∧ RQ wr g2 s a e ∧ Ext w wr) (fun i _ => len - (intOf i).toNat)
  case atStart => exact ⟨0, 0, 0, by omega, rfl, by omega, by omega, HR1.out, HR2.out, HX1.out⟩
  case round =>
    obtain ⟨k, a, e, hk, rfl, ha0, ha1, hr1, hr2, hx⟩ := hrel
    clear HR1 HR2 HX1
    have HR1 := Lib.hid hr1; clear hr1
    have HR2 := Lib.hid hr2; clear hr2
    have HX := Lib.hid hx; clear hx
    have HA0 := Lib.hid ha0
    have HA1 := Lib.hid ha1
    obtain ⟨hne, hne'⟩ := HNE.out
    have hg2 := hg2'
    by_cases hlt : k < len
    · obtain ⟨b, o, rfl, hb, hc⟩ := HA.out (by omega)
      obtain ⟨cd, cn, n0, n1⟩ := hc k hlt
      clear hc
      generalize (f k).1 = d at *
      generalize (f k).2 = n at *
      have HN := Lib.hid (And.intro n0 n1)
      have HCN := Lib.hid cn
      have cd' : wr.cell? ⟨b, o + k * 2, none⟩ = some (.int .i64 d) := by rw [Below.cell HX.out hb]; exact cd
      have cn' : wr.cell? ⟨b, o + k * 2 + 1, none⟩ = some (.int .i64 n) := by rw [Below.cell HX.out hb]; exact cn
      clear cd cn
      by_cases d0 : d = 0
      · subst d0
        have hrng := Wi.num_range s a e ha0 ha1
        go_wp2_with fail
        refine (num_any g1 s a e _ HR1.out HS.out).mono ?_
        rintro r w4 ⟨rfl, hr1, hu1⟩
        go_wp2_with fail
        refine (qnum_any g2 s a e _ (HR2.out.upd hu1 hne) HS.out).mono ?_
        rintro r w5 ⟨rfl, hr2, hu2⟩
        generalize Wi.num s a e = t at *
        obtain ⟨x, a', e'⟩ := t
        simp only at *
        obtain ⟨q0, q1⟩ := hrng
        have hr1' := hr1.upd hu2 hne'
        have HU : Hid (Ext w w5) := Lib.hid ((HX.out.upd hu1 hg1).upd hu2 hg2)
        clear hr1 hu1 hu2 HX HR1 HR2
        go_wp2_with fail
        refine (err_any g1 s _ _ _ hr1').mono ?_
        rintro r wa ⟨rfl, na, rfl⟩
        go_wp2_with fail
        have HR1 := Lib.hid (hr1'.drewN na)
        have HR2 := Lib.hid (hr2.drewN na)
        have HU := Lib.hid (HU.out.drewN na)
        have k1 := RR.c1 HR2.out
        have k2 := RR.c2 HR2.out
        have k3 := RR.c3 HR2.out
        clear hr1' hr2
        generalize w5.drewN na = wz at *
        go_quiet ((first | (go_at_call 20; exact quiet_l (at_any g1 s _ _ _ (HR1.out.drewN _))) | (go_at_call 21; exact quiet_d (done_any g1 s _ _ _ (HR1.out.drewN _))) | (go_at_call 22; exact quiet_d (qdone_any g2 s _ _ _ (HR2.out.drewN _)))))
        go_wp2
        go_roundw
        case rel => exact ⟨k + 1, _, _, by omega, by go_num, q0, q1, HR1.out.drewN _, HR2.out.drewN _, HU.out.drewN _⟩
        case measure => simp [intOf]; omega
      · by_cases d1 : d = 1
        · subst d1
          have hrng := Wi.byte_range s a e ha0 ha1
          go_wp2_with fail
          refine (byte_any g1 s a e _ HR1.out HS.out HA0.out HA1.out).mono ?_
          rintro r w4 ⟨rfl, hr1, hu1⟩
          go_wp2_with fail
          refine (qbyte_any g2 s a e _ (HR2.out.upd hu1 hne) HS.out HA0.out HA1.out).mono ?_
          rintro r w5 ⟨rfl, hr2, hu2⟩
          generalize Wi.byte s a e = t at *
          obtain ⟨x, a', e'⟩ := t
          simp only at *
          obtain ⟨q0, q1⟩ := hrng
          have hr1' := hr1.upd hu2 hne'
          have HU : Hid (Ext w w5) := Lib.hid ((HX.out.upd hu1 hg1).upd hu2 hg2)
          clear hr1 hu1 hu2 HX HR1 HR2
          go_wp2_with fail
          refine (err_any g1 s _ _ _ hr1').mono ?_
          rintro r wa ⟨rfl, na, rfl⟩
          go_wp2_with fail
          have HR1 := Lib.hid (hr1'.drewN na)
          have HR2 := Lib.hid (hr2.drewN na)
          have HU := Lib.hid (HU.out.drewN na)
          have k1 := RR.c1 HR2.out
          have k2 := RR.c2 HR2.out
          have k3 := RR.c3 HR2.out
          clear hr1' hr2
          generalize w5.drewN na = wz at *
          go_quiet ((first | (go_at_call 20; exact quiet_l (at_any g1 s _ _ _ (HR1.out.drewN _))) | (go_at_call 21; exact quiet_d (done_any g1 s _ _ _ (HR1.out.drewN _))) | (go_at_call 22; exact quiet_d (qdone_any g2 s _ _ _ (HR2.out.drewN _)))))
          go_wp2
          go_roundw
          case rel => exact ⟨k + 1, _, _, by omega, by go_num, q0, q1, HR1.out.drewN _, HR2.out.drewN _, HU.out.drewN _⟩
          case measure => simp [intOf]; omega
        · by_cases d2 : d = 2
          · subst d2
            have hrng := Wi.text_range s a e ha0 ha1
            go_wp2_with fail
            refine (text_any g1 s a e _ HR1.out HS.out).mono ?_
            rintro r w4 ⟨rfl, hr1, hu1⟩
            go_wp2_with fail
            refine (qtext_any g2 s a e _ (HR2.out.upd hu1 hne) HS.out HA0.out HA1.out).mono ?_
            rintro r w5 ⟨rfl, hr2, hu2⟩
            generalize Wi.text s a e = t at *
            obtain ⟨x, a', e'⟩ := t
            simp only at *
            obtain ⟨q0, q1⟩ := hrng
            have hr1' := hr1.upd hu2 hne'
            have HU : Hid (Ext w w5) := Lib.hid ((HX.out.upd hu1 hg1).upd hu2 hg2)
            clear hr1 hu1 hu2 HX HR1 HR2
            go_wp2_with fail
            refine (err_any g1 s _ _ _ hr1').mono ?_
            rintro r wa ⟨rfl, na, rfl⟩
            go_wp2_with fail
            have HR1 := Lib.hid (hr1'.drewN na)
            have HR2 := Lib.hid (hr2.drewN na)
            have HU := Lib.hid (HU.out.drewN na)
            have k1 := RR.c1 HR2.out
            have k2 := RR.c2 HR2.out
            have k3 := RR.c3 HR2.out
            clear hr1' hr2
            generalize w5.drewN na = wz at *
            go_quiet ((first | (go_at_call 20; exact quiet_l (at_any g1 s _ _ _ (HR1.out.drewN _))) | (go_at_call 21; exact quiet_d (done_any g1 s _ _ _ (HR1.out.drewN _))) | (go_at_call 22; exact quiet_d (qdone_any g2 s _ _ _ (HR2.out.drewN _)))))
            go_wp2
            go_roundw
            case rel => exact ⟨k + 1, _, _, by omega, by go_num, q0, q1, HR1.out.drewN _, HR2.out.drewN _, HU.out.drewN _⟩
            case measure => simp [intOf]; omega
          · have b0 : (d == 0) = false := by simpa using d0
            have b1 : (d == 1) = false := by simpa using d1
            have b2 : (d == 2) = false := by simpa using d2
            clear d0 d1 d2
            have hrng := Wi.take_range s a e n ha0 ha1
            go_wp2_with fail
            refine (rtake_any g1 s a e n _ HR1.out HS.out HA0.out HA1.out HN.out).mono ?_
            rintro r w4 ⟨rfl, hr1, hu1⟩
            have cn4 : w4.cell? ⟨b, o + k * 2 + 1, none⟩ = some (.int .i64 n) := by rw [Below.cell (HX.out.upd hu1 hg1) hb]; exact HCN.out
            go_wp2_with fail
            refine (qtake_any g2 s a e n _ (HR2.out.upd hu1 hne) HS.out HA0.out HA1.out HN.out).mono ?_
            rintro r w5 ⟨rfl, hr2, hu2⟩
            clear cn4
            generalize Wi.take s a e n = t at *
            obtain ⟨x, a', e'⟩ := t
            simp only at *
            obtain ⟨q0, q1⟩ := hrng
            have hr1' := hr1.upd hu2 hne'
            have HU : Hid (Ext w w5) := Lib.hid ((HX.out.upd hu1 hg1).upd hu2 hg2)
            clear hr1 hu1 hu2 HX HR1 HR2
            go_wp2_with fail
            refine (err_any g1 s _ _ _ hr1').mono ?_
            rintro r wa ⟨rfl, na, rfl⟩
            go_wp2_with fail
            have HR1 := Lib.hid (hr1'.drewN na)
            have HR2 := Lib.hid (hr2.drewN na)
            have HU := Lib.hid (HU.out.drewN na)
            have k1 := RR.c1 HR2.out
            have k2 := RR.c2 HR2.out
            have k3 := RR.c3 HR2.out
            clear hr1' hr2
            generalize w5.drewN na = wz at *
            go_quiet ((first | (go_at_call 20; exact quiet_l (at_any g1 s _ _ _ (HR1.out.drewN _))) | (go_at_call 21; exact quiet_d (done_any g1 s _ _ _ (HR1.out.drewN _))) | (go_at_call 22; exact quiet_d (qdone_any g2 s _ _ _ (HR2.out.drewN _)))))
            go_wp2
            go_roundw
            case rel => exact ⟨k + 1, _, _, by omega, by go_num, q0, q1, HR1.out.drewN _, HR2.out.drewN _, HU.out.drewN _⟩
            case measure => simp [intOf]; omega
    · go_wp2
      go_ret
      exact ⟨rfl, HX.out⟩

theorem walk_WireReads (s : ByteArray) (A : Option Addr) (len cap : Nat) (f : Nat → Int × Int) (w : World) (hs : s.size ≤ maxLen) (hl : len ≤ maxLen)
    (hA : 0 < len → ∃ b o, A = some ⟨b, o, none⟩ ∧ b < w.heap.size ∧ ∀ j, j < len → w.cell? ⟨b, o + j * 2, none⟩ = some (.int .i64 (f j).1) ∧ w.cell? ⟨b, o + j * 2 + 1, none⟩ = some (.int .i64 (f j).2) ∧
      (-9223372036854775808 ≤ (f j).1 ∧ (f j).1 ≤ 9223372036854775807) ∧ -9223372036854775808 ≤ (f j).2 ∧ (f j).2 ≤ 9223372036854775807) :
    Calls Try.prog 3 #[.string s, .slice A len cap] w fun e w' => e = .returned (.bool true) ∧ Ext w w' := by
  by_cases hh : 5000 < s.size ∨ 100 < len
  · exact wreads_out s A len cap w hs hl hh
  · refine wreads_in s A len cap f w (by omega) (by omega) fun h0 => ?_
    obtain ⟨b, o, h1, h2, h3⟩ := hA h0
    exact ⟨b, o, h1, h2, fun j hj => ⟨(h3 j hj).1, (h3 j hj).2.1, (h3 j hj).2.2.2⟩⟩

end Go.Proofs.Ytfmbpajomedfnaa
