/-
  A table of kinds: what it answers.
-/
import Derived.Test.YtaeollnaigphlaaDoorKh
import Derived.Laws.Rows
set_option linter.unusedVariables false
set_option linter.unusedSimpArgs false
namespace Go.Proofs.YtaeollnaigphlaaDoor
open Go.RowKit Go.Maps

/-- A table that was asked n times. -/
def KAt (w : World) (b : Nat) (n : Int) : Prop := KBox w b 0 0 (.map none) n ∨ ∃ mb, mb ≠ b ∧ KBox w b 1 0 (.map (some mb)) n ∧ RowMap w mb 256 Ki.row
theorem KAt.ext {w w' : World} {b : Nat} {n : Int} (h : KAt w b n) (hx : Ext w w') : KAt w' b n := by
  rcases h with h | ⟨mb, h1, h2, h3⟩
  · exact .inl (hx.blk h)
  · exact .inr ⟨mb, h1, hx.blk h2, h3.ext hx⟩
theorem KAt.lt {w : World} {b : Nat} {n : Int} (h : KAt w b n) : b < w.heap.size := by
  rcases h with h | ⟨mb, h1, h2, h3⟩
  · exact blk_lt h
  · exact blk_lt h2
/-- What turns nothing but another block. -/
theorem KAt.upd {w w' : World} {b g : Nat} {n : Int} (h : KAt w b n) (hu : Upd g w w') (hne : b ≠ g) (hm : ∀ mb, KBox w b 1 0 (.map (some mb)) n → mb ≠ g) : KAt w' b n := by
  rcases h with h | ⟨mb, h1, h2, h3⟩
  · exact .inl (hu.blk h hne)
  · exact .inr ⟨mb, h1, hu.blk h2 hne, h3.upd hu (hm mb h2)⟩
theorem KAt.row {w : World} {b : Nat} {n : Int} (h : KAt w b n) : ∃ d r, KBox w b d 0 r n := by
  rcases h with h | ⟨mb, h1, h2, h3⟩
  · exact ⟨_, _, h⟩
  · exact ⟨_, _, h2⟩
theorem KAt.add {w : World} {b : Nat} {n : Int} (h : KAt w b n) (m : Int) : KAt (w.setCell ⟨b, 4, none⟩ (.int .i64 m)) b m := by
  rcases h with h | ⟨mb, h1, h2, h3⟩
  · exact .inl (blk_set h 4 _)
  · exact .inr ⟨mb, h1, blk_set h2 4 _, h3.upd ((Upd.refl b w).set 4 _) h1⟩
def KAskP (b : Nat) (n k : Int) (w : World) (e : Ending) (w' : World) : Prop := e = .returned (.agg #[.string (Ki.name k), .bool (Ki.known k)]) ∧ KAt w' b (n + 1) ∧ Upd b w w'
theorem kdo_any (b p : Nat) (n : Int) (w0 w : World) (ht : Tab w0) (hw0 : Upd b w0 w) (htb : w0.heap.size ≤ b) (hp : w.cell? ⟨p, 0, none⟩ = some (.pointer (some ⟨b, 0, none⟩))) (hpb : p ≠ b) (hb : KAt w b n) :
    Calls Tryd.prog 29 #[.pointer (some ⟨b, 0, none⟩), .func (.func 30) #[] #[.pointer (some ⟨p, 0, none⟩)]] w fun e w' => ∃ mb, e = .returned (.tuple #[]) ∧ KBox w' b 1 0 (.map (some mb)) n ∧ RowMap w' mb 256 Ki.row ∧ Upd b w w' ∧ mb ≠ b := by
  rcases hb with h | ⟨mb, h1, h2, h3⟩
  · refine (kdo_first b p n _ w0 w ht hw0 htb hp hpb h).mono ?_
    rintro e w' ⟨mb, h4, h5, h6, h7, h8⟩
    exact ⟨mb, h4, h5, h6, h7, by have := blk_lt h; omega⟩
  · refine (kdo_done b n 0 _ _ w h2).mono ?_
    rintro e w' ⟨rfl, rfl⟩
    exact ⟨mb, rfl, h2, h3, Upd.refl b _, h1⟩
set_option maxRecDepth 100000 in
set_option maxHeartbeats 2000000 in
theorem kask_any (b : Nat) (n k : Int) (w0 w : World) (ht : Tab w0) (hw0 : Upd b w0 w) (htb : w0.heap.size ≤ b) (hb : KAt w b n) (hk : i64in k) (hn0 : 0 ≤ n) (hn1 : n ≤ 900000) :
    Calls Tryd.prog 25 #[.pointer (some ⟨b, 0, none⟩), .int .i64 k] w (KAskP b n k w) := by
  have HB := Lib.hid hb
  have hlt := hb.lt
  have HT := Lib.hid ht
  have HW0 := Lib.hid hw0
  have HTB := Lib.hid htb
  have hmf : ∀ (fn : Fn) (first cap : Array Value) (w : World), (Instr.makeFunc fn first cap).run Tryd.prog w = .ok (.func fn first cap) w := fun _ _ _ _ => rfl
  obtain ⟨p, hps⟩ : ∃ p, w.heap.size = p := ⟨_, rfl⟩
  have HPS := Lib.hid hps
  obtain ⟨w1, hw1⟩ : ∃ w1, (w.alloc (.cells #[.pointer (some ⟨b, 0, none⟩)] 31)).alloc (.cells #[.string ⟨#[]⟩, .bool false] 54) = w1 := ⟨_, rfl⟩
  have HW1 := Lib.hid hw1
  have hx1 : Ext w w1 := by rw [← hw1]; exact ((Ext.refl w).alloc _).alloc _
  have HX1 := Lib.hid hx1
  have HB1 := Lib.hid (hb.ext hx1)
  have hq1 : w1.heap[p]? = some (.cells #[.pointer (some ⟨b, 0, none⟩)] 31) := by rw [← hw1, ← hps]; exact blk_alloc (blk_new w _) _
  have hr1 : w1.heap[p + 1]? = some (.cells #[.string ⟨#[]⟩, .bool false] 54) := by
    have h := blk_new (w.alloc (.cells #[.pointer (some ⟨b, 0, none⟩)] 31)) (.cells #[.string ⟨#[]⟩, .bool false] 54)
    rw [hw1, show (w.alloc (.cells #[.pointer (some ⟨b, 0, none⟩)] 31)).heap.size = p + 1 by rw [← hps]; simp] at h
    exact h
  have HQ1 := Lib.hid hq1
  have HR1 := Lib.hid hr1
  have HADD : Hid _ := Lib.hid (by
    obtain ⟨d, r, h⟩ := (hb.ext hx1).row
    exact kadd_any b 4 n w1 (blk_cell h 4 _ rfl) (frozen_of_row _ _ 4 _ _ h) hn0 (by omega))
  have HK2 := Lib.hid ((hb.ext hx1).add (n + 1))
  have HU2 : Hid (Upd b w1 (w1.setCell ⟨b, 4, none⟩ (.int .i64 (n + 1)))) := Lib.hid ((Upd.refl b w1).set 4 _)
  clear hb ht hw0 htb hw1 hx1 hq1 hr1
  go_enter Tryd.func25, Tryd.ntmps25
  go_wp2_with fail
  rw [HW1.out]
  refine HADD.out.mono ?_
  rintro e w2 ⟨rfl, hw2⟩
  rw [← hw2] at HK2 HU2
  clear hw2
  have hbp : p ≠ b := by omega
  have HQ2 := Lib.hid (HU2.out.blk HQ1.out hbp)
  have HR2 := Lib.hid (HU2.out.blk HR1.out (by omega))
  have q2 := blk_cell HQ2.out 0 _ rfl
  have HDO := Lib.hid (kdo_any b p (n + 1) w0 w2 HT.out ((HW0.out.trans (Upd.ext HX1.out)).trans HU2.out) HTB.out q2 hbp HK2.out)
  go_wp2_with fail
  refine HDO.out.mono ?_
  rintro e w3 ⟨mb, rfl, hk3, hm3, hu3, hmb⟩
  have HK3 := Lib.hid hk3
  have HM3 := Lib.hid hm3
  have HU3 := Lib.hid hu3
  have HQ3 := Lib.hid (HU3.out.blk HQ2.out hbp)
  have HR3 := Lib.hid (HU3.out.blk HR2.out (by omega))
  clear hk3 hm3 hu3 q2
  have q3 := blk_cell HQ3.out 0 _ rfl
  have r3 := blk_cell HK3.out 3 _ rfl
  have hlook : (Instr.lookup 47 (.map (some mb)) (.int .i64 k) false).run Tryd.prog w3 = .ok (.agg #[.string (Ki.name k), .bool (Ki.known k)]) w3 := HM3.out.look (t := 47) (e := 54) Tryd.underlying3 Tryd.underlying47 (rowzero _) k hk
  have s0 := blk_cell HR3.out 0 _ rfl
  have s1 := blk_cell HR3.out 1 _ rfl
  have f0 := frozen_of_row _ _ 0 _ _ HR3.out
  have f1 := frozen_of_row _ _ 1 _ _ HR3.out
  have hr4 := blk_set (blk_set HR3.out 0 (.string (Ki.name k))) 1 (.bool (Ki.known k))
  have HR4 := Lib.hid hr4
  have HU4 : Hid (Upd (p + 1) w3 ((w3.setCell ⟨p + 1, 0, none⟩ (.string (Ki.name k))).setCell ⟨p + 1, 1, none⟩ (.bool (Ki.known k)))) := Lib.hid (((Upd.refl (p + 1) w3).set 0 _).set 1 _)
  clear hr4
  go_wp2
  (try simp only [Exit.inBlock, Exit.then])
  refine bodyPost_ret (v := .agg #[.string (Ki.name k), .bool (Ki.known k)]) (results_cell_row rfl _ _ (p + 1) _ _ _ _ rfl HR4.out Tryd.underlying54 rfl (by kernel_rfl)) rfl ⟨rfl, ?_, ?_⟩
  · refine .inr ⟨mb, hmb, HU4.out.blk HK3.out (by omega), HM3.out.upd HU4.out ?_⟩
    intro h
    obtain ⟨D, ⟨es, cl, h1, _⟩, _⟩ := HM3.out
    rw [h, HR3.out] at h1
    cases h1
  · have h1 := ((Upd.ext HX1.out).trans HU2.out).trans HU3.out
    exact Upd.more h1 HU4.out (by omega)
theorem kfield0 (x : ByteArray) (y : Bool) (w : World) : (Instr.field 54 (.agg #[.string x, .bool y]) 0).run Tryd.prog w = .ok (.string x) w := by kernel_rfl
theorem kfield1 (x : ByteArray) (y : Bool) (w : World) : (Instr.field 54 (.agg #[.string x, .bool y]) 1).run Tryd.prog w = .ok (.bool y) w := by kernel_rfl
set_option maxRecDepth 100000 in
set_option maxHeartbeats 2000000 in
theorem kKnown_at (b : Nat) (n k : Int) (w0 w : World) (ht : Tab w0) (hw0 : Upd b w0 w) (htb : w0.heap.size ≤ b) (hb : KAt w b n) (hk : i64in k) (hn0 : 0 ≤ n) (hn1 : n ≤ 900000) :
    Calls Tryd.prog 20 #[.pointer (some ⟨b, 0, none⟩), .int .i64 k] w fun e w' => e = .returned (.bool (Ki.known k)) ∧ KAt w' b (n + 1) ∧ Upd b w w' := by
  have HA := Lib.hid (kask_any b n k w0 w ht hw0 htb hb hk hn0 hn1)
  have hf := kfield1 (Ki.name k) (Ki.known k)
  clear ht hw0 htb hb hk
  go_enter Tryd.func20, Tryd.ntmps20
  go_wp2_with fail
  refine HA.out.mono ?_
  rintro e w' ⟨rfl, h1, h2⟩
  have H1 := Lib.hid h1
  have H2 := Lib.hid h2
  clear h1 h2
  go_wp2
  go_ret
  exact ⟨rfl, H1.out, H2.out⟩
set_option maxRecDepth 100000 in
set_option maxHeartbeats 2000000 in
theorem kName_at (b : Nat) (n k : Int) (w0 w : World) (ht : Tab w0) (hw0 : Upd b w0 w) (htb : w0.heap.size ≤ b) (hb : KAt w b n) (hk : i64in k) (hn0 : 0 ≤ n) (hn1 : n ≤ 900000) :
    Calls Tryd.prog 21 #[.pointer (some ⟨b, 0, none⟩), .int .i64 k] w fun e w' => e = .returned (.string (Ki.name k)) ∧ KAt w' b (n + 1) ∧ Upd b w w' := by
  have HA := Lib.hid (kask_any b n k w0 w ht hw0 htb hb hk hn0 hn1)
  have hf := kfield0 (Ki.name k) (Ki.known k)
  clear ht hw0 htb hb hk
  go_enter Tryd.func21, Tryd.ntmps21
  go_wp2_with fail
  refine HA.out.mono ?_
  rintro e w' ⟨rfl, h1, h2⟩
  have H1 := Lib.hid h1
  have H2 := Lib.hid h2
  clear h1 h2
  go_wp2
  go_ret
  exact ⟨rfl, H1.out, H2.out⟩
theorem kAsked_at (b : Nat) (n : Int) (w : World) (hb : KAt w b n) (hn0 : 0 ≤ n) (hn1 : n ≤ 900000) :
    Calls Tryd.prog 22 #[.pointer (some ⟨b, 0, none⟩)] w fun e w' => e = .returned (.int .i64 (n + 1)) ∧ KAt w' b (n + 1) ∧ Upd b w w' := by
  have HADD : Hid _ := Lib.hid (by
    obtain ⟨d, r, h⟩ := hb.row
    exact kadd_any b 4 n w (blk_cell h 4 _ rfl) (frozen_of_row _ _ 4 _ _ h) hn0 (by omega))
  have HK2 := Lib.hid (hb.add (n + 1))
  have HU2 : Hid (Upd b w (w.setCell ⟨b, 4, none⟩ (.int .i64 (n + 1)))) := Lib.hid ((Upd.refl b w).set 4 _)
  clear hb
  go_enter Tryd.func22, Tryd.ntmps22
  go_wp2_with fail
  refine HADD.out.mono ?_
  rintro e w' ⟨rfl, rfl⟩
  go_wp2
  go_ret
  exact ⟨rfl, HK2.out, HU2.out⟩
theorem kKnown_nil (k : Int) (w : World) : Calls Tryd.prog 20 #[.pointer none, .int .i64 k] w fun e w' => e = .returned (.bool false) ∧ w' = w := by
  go_enter Tryd.func20, Tryd.ntmps20
  go_wp2
  go_ret
  exact ⟨rfl, rfl⟩
theorem kName_nil (k : Int) (w : World) : Calls Tryd.prog 21 #[.pointer none, .int .i64 k] w fun e w' => e = .returned (.string ⟨#[]⟩) ∧ w' = w := by
  go_enter Tryd.func21, Tryd.ntmps21
  go_wp2
  go_ret
  exact ⟨rfl, rfl⟩
theorem kAsked_nil (w : World) : Calls Tryd.prog 22 #[.pointer none] w fun e w' => e = .returned (.int .i64 0) ∧ w' = w := by
  go_enter Tryd.func22, Tryd.ntmps22
  go_wp2
  go_ret
  exact ⟨rfl, rfl⟩
theorem knew_any (w : World) : Calls Tryd.prog 19 #[] w fun e w' => e = .returned (.pointer (some ⟨w.heap.size, 0, none⟩)) ∧ KAt w' w.heap.size 0 ∧ Ext w w' := by
  go_enter Tryd.func19, Tryd.ntmps19
  go_wp2
  go_ret
  exact ⟨rfl, .inl (blk_new w _), (Ext.refl w).alloc _⟩

end Go.Proofs.YtaeollnaigphlaaDoor
