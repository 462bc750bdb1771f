/-
  A table of kinds: what holds behind each call; what the document fixes.
-/
import Derived.Test.YtaeollnaigphlaaDoorKi
set_option linter.unusedVariables false
set_option linter.unusedSimpArgs false
namespace Go.Proofs.YtaeollnaigphlaaDoor
open Go.RowKit Go.Maps

/-- Behind a call: the table was asked n times, and nothing that there was turned. -/
def KNow (w0 : World) (b : Nat) (n : Int) (w : World) : Prop := KAt w b n ∧ Ext w0 w ∧ w0.heap.size ≤ b
theorem KNow.upd {w0 w w' : World} {b : Nat} {n : Int} (h : Ext w0 w) (hb : w0.heap.size ≤ b) (hk : KAt w' b n) (hu : Upd b w w') : KNow w0 b n w' := ⟨hk, Ext.upd h hu hb, hb⟩
theorem KNow.ext {w0 w w' : World} {b : Nat} {n : Int} (h : KNow w0 b n w) (hx : Ext w w') : KNow w0 b n w' := ⟨h.1.ext hx, h.2.1.trans hx, h.2.2⟩
theorem kKnown_now {w0 w : World} {b : Nat} {n : Int} (ht : Tab w0) (k : Int) (h : KNow w0 b n w) (hk : i64in k) (hn0 : 0 ≤ n) (hn1 : n ≤ 900000) :
    Calls Tryd.prog 20 #[.pointer (some ⟨b, 0, none⟩), .int .i64 k] w fun e w' => e = .returned (.bool (Ki.known k)) ∧ KNow w0 b (n + 1) w' := by
  refine (kKnown_at b n k w0 w ht (Upd.ext h.2.1) h.2.2 h.1 hk hn0 hn1).mono ?_
  rintro e w' ⟨rfl, h1, h2⟩
  exact ⟨rfl, KNow.upd h.2.1 h.2.2 h1 h2⟩
theorem kName_now {w0 w : World} {b : Nat} {n : Int} (ht : Tab w0) (k : Int) (h : KNow w0 b n w) (hk : i64in k) (hn0 : 0 ≤ n) (hn1 : n ≤ 900000) :
    Calls Tryd.prog 21 #[.pointer (some ⟨b, 0, none⟩), .int .i64 k] w fun e w' => e = .returned (.string (Ki.name k)) ∧ KNow w0 b (n + 1) w' := by
  refine (kName_at b n k w0 w ht (Upd.ext h.2.1) h.2.2 h.1 hk hn0 hn1).mono ?_
  rintro e w' ⟨rfl, h1, h2⟩
  exact ⟨rfl, KNow.upd h.2.1 h.2.2 h1 h2⟩
theorem kAsked_now {w0 w : World} {b : Nat} {n m : Int} (hm : n + 1 = m) (h : KNow w0 b n w) (hn0 : 0 ≤ n) (hn1 : n ≤ 900000) :
    Calls Tryd.prog 22 #[.pointer (some ⟨b, 0, none⟩)] w fun e w' => e = .returned (.int .i64 m) ∧ KNow w0 b m w' := by
  subst hm
  refine (kAsked_at b n w h.1 hn0 hn1).mono ?_
  rintro e w' ⟨rfl, h1, h2⟩
  exact ⟨rfl, KNow.upd h.2.1 h.2.2 h1 h2⟩
theorem knew_now (w : World) (b : Nat) (hb : w.heap.size = b) : Calls Tryd.prog 19 #[] w fun e w' => e = .returned (.pointer (some ⟨b, 0, none⟩)) ∧ KNow w b 0 w' := by
  subst hb
  refine (knew_any w).mono ?_
  rintro e w' ⟨rfl, h1, h2⟩
  exact ⟨rfl, h1, h2, Nat.le_refl _⟩
theorem exp_eq (k : Int) (b : Bool) (h : Ki.exp k = b) (w : World) : Calls Tryd.prog 15 #[.int .i64 k] w fun e w' => e = .returned (.bool b) ∧ w = w' := by subst h; exact exp_any k w
theorem Ki.name3 : Ki.name 3 = ⟨#[99, 114, 101, 97, 116, 101]⟩ := rfl
theorem Ki.name200 : Ki.name 200 = ⟨#[101, 120, 112, 50, 48, 48]⟩ := by decide +kernel
theorem Ki.of_create : Ki.of ⟨#[99, 114, 101, 97, 116, 101]⟩ = 3 := by decide +kernel
theorem Ki.of_none0 : Ki.of ⟨#[]⟩ = 0 := Ki.of_empty (by rw [Lib.toList_data])
theorem i64_small {k : Int} (h0 : 0 ≤ k) (h1 : k ≤ 1000) : i64in k := ⟨by omega, by omega⟩
set_option maxRecDepth 100000 in
set_option maxHeartbeats 4000000 in
theorem kfixed_yes (w : World) (ht : Tab w) : Calls Tryd.prog 7 #[] w fun e w' => e = .returned (.bool true) ∧ Ext w w' := by
  have HT := Lib.hid ht
  obtain ⟨b, hbs⟩ : ∃ b, w.heap.size = b := ⟨_, rfl⟩
  have HNEW := Lib.hid (knew_now w b hbs)
  clear ht
  go_enter Tryd.func7, Tryd.ntmps7
  go_wp2_with fail
  refine HNEW.out.mono ?_
  rintro e w1 ⟨rfl, h1⟩
  have H1 := Lib.hid h1
  clear h1
  go_wp2_with fail
  refine (kAsked_now (m := 1) rfl H1.out (by omega) (by omega)).mono ?_
  rintro e w2 ⟨rfl, h2⟩
  have H2 := Lib.hid h2
  clear h2
  go_wp2_with fail
  refine (kKnown_now HT.out 3 H2.out (i64_small (by omega) (by omega)) (by omega) (by omega)).mono ?_
  rintro e w3 ⟨rfl, h3⟩
  have H3 : Hid (KNow w b 2 w3) := Lib.hid h3
  clear h3
  rw [show Ki.known 3 = true from rfl]
  go_wp2_with fail
  refine (kName_now HT.out 3 H3.out (i64_small (by omega) (by omega)) (by omega) (by omega)).mono ?_
  rintro e w4 ⟨rfl, h4⟩
  have H4 : Hid (KNow w b 3 w4) := Lib.hid h4
  clear h4
  rw [Ki.name3]
  go_wp2_with fail
  refine (kname_any 200 w4 (HT.out.ext H4.out.2.1)).mono ?_
  rintro e w5 ⟨rfl, h5⟩
  have H5 := Lib.hid (H4.out.ext h5)
  clear h5
  rw [Ki.name200]
  go_wp2_with fail
  refine (kof_any ⟨#[99, 114, 101, 97, 116, 101]⟩ w5 (HT.out.ext H5.out.2.1) (by decide +kernel)).mono ?_
  rintro e w6 ⟨rfl, h6⟩
  have H6 := Lib.hid (H5.out.ext h6)
  clear h6
  rw [Ki.of_create]
  go_wp2_with fail
  refine (known_eq 10 true rfl w6).mono ?_
  rintro e w7 ⟨rfl, rfl⟩
  go_wp2_with fail
  refine (known_eq 11 false rfl w6).mono ?_
  rintro e w7 ⟨rfl, rfl⟩
  go_wp2_with fail
  refine (exp_eq 128 true rfl w6).mono ?_
  rintro e w7 ⟨rfl, rfl⟩
  go_wp2_with fail
  refine (exp_eq 256 false rfl w6).mono ?_
  rintro e w7 ⟨rfl, rfl⟩
  go_wp2_with fail
  refine (args_any 7 w6).mono ?_
  rintro e w7 ⟨v, rfl, A, c, rfl, hlen, hA, hx7, _⟩
  have H7 := Lib.hid (H6.out.ext hx7)
  clear hA hx7 hlen
  rw [show (Ki.args 7).length = 3 from rfl]
  go_wp2_with fail
  refine (kof_any ⟨#[]⟩ w7 (HT.out.ext H7.out.2.1) (by decide +kernel)).mono ?_
  rintro e w8 ⟨rfl, h8⟩
  have H8 := Lib.hid (H7.out.ext h8)
  clear h8
  rw [Ki.of_none0]
  go_wp2_with fail
  refine (kAsked_now (m := 4) rfl H8.out (by omega) (by omega)).mono ?_
  rintro e w9 ⟨rfl, h9⟩
  have H9 := Lib.hid h9
  clear h9
  go_wp2_with fail
  refine (kAsked_nil w9).mono ?_
  rintro e w10 ⟨rfl, rfl⟩
  go_wp2_with fail
  refine (kKnown_nil 3 w10).mono ?_
  rintro e w11 ⟨rfl, rfl⟩
  go_wp2_with fail
  refine (kName_nil 3 w11).mono ?_
  rintro e w12 ⟨rfl, rfl⟩
  go_wp2
  go_ret
  exact ⟨rfl, H9.out.2.1⟩

end Go.Proofs.YtaeollnaigphlaaDoor
