/-
  What the chunks lack, for one more law.
-/
import Derived.Test.YtohncgikdlbogaaDoorD01
import Derived.Test.YtohncgikdlbogaaDoorD02
import Derived.Test.YtohncgikdlbogaaDoorD03
import Derived.Test.YtohncgikdlbogaaDoorD04
import Derived.Test.YtohncgikdlbogaaDoorD05
import Derived.Test.YtohncgikdlbogaaDoorD06
import Derived.Test.YtohncgikdlbogaaDoorD07
import Derived.Test.YtohncgikdlbogaaDoorD08
import Derived.Test.YtohncgikdlbogaaDoorD09
import Derived.Test.YtohncgikdlbogaaDoorD10
import Derived.Test.YtohncgikdlbogaaDoorD11
import Derived.Test.YtohncgikdlbogaaDoorD12
import Derived.Test.YtohncgikdlbogaaDoorD13
import Derived.IntWalk
set_option linter.unusedVariables false
set_option linter.unusedSimpArgs false
namespace Go.Proofs.YtohncgikdlbogaaDoor
open Go.RowKit
namespace Sp
def good (s : Sp) : Prop := (s.st = 1 ∧ 0 < s.n ∨ s.st = 0 ∧ s.n = 0) ∧ s.why = ByteArray.empty
def chain : List Sp → Prop
  | [] => True
  | [_] => True
  | a :: b :: l => a.n ≠ b.n ∧ chain (b :: l)
theorem chain_snoc {s t : Sp} : ∀ {l : List Sp}, chain (l ++ [s]) → s.n ≠ t.n → chain (l ++ [s] ++ [t])
  | [], _, h => ⟨h, trivial⟩
  | [a], h, h2 => ⟨h.1, h2, trivial⟩
  | a :: b :: l, h, h2 => ⟨h.1, chain_snoc (l := b :: l) h.2 h2⟩
theorem chain_close {s : Sp} {t : Int} : ∀ {l : List Sp}, chain (l ++ [s]) → chain (l ++ [close t s])
  | [], _ => trivial
  | [a], h => ⟨h.1, trivial⟩
  | a :: b :: l, h => ⟨h.1, chain_close (l := b :: l) h.2⟩
theorem chain_get {l : List Sp} (h : chain l) : ∀ (k : Nat) (a b : Sp), l[k]? = some a → l[k + 1]? = some b → a.n ≠ b.n := by
  induction l with
  | nil => intro k a b h1; simp at h1
  | cons s l ih =>
    intro k a b h1 h2
    cases l with
    | nil => simp at h2
    | cons s' l =>
      cases k with
      | zero =>
        simp only [List.getElem?_cons_zero, List.getElem?_cons_succ, Option.some.injEq] at h1 h2
        subst h1 h2
        exact h.1
      | succ k =>
        simp only [List.getElem?_cons_succ] at h1 h2
        exact ih h.2 k a b h1 h2
theorem lookP_good {p : Int} {x : Sn} (hm : x.may = true) {v : Vw} (h : lookP p x = some v) : (v.1 = 1 ∧ 0 < v.2.1 ∨ v.1 = 0 ∧ v.2.1 = 0) ∧ v.2.2 = 0 := by
  unfold lookP at h
  split at h
  · next hp =>
    have hk : (p - 1).toNat < x.ps.length := by omega
    have hg : x.ps.getD (p - 1).toNat (0, 0) = x.ps[(p - 1).toNat] := by rw [List.getD, List.getElem?_eq_getElem hk]; rfl
    have hok := ((Sn.may_iff x).1 hm).2.2.2.1 x.ps[(p - 1).toNat] (List.getElem_mem hk)
    unfold snPOk at hok
    simp only [Bool.and_eq_true, snNum_iff] at hok
    rw [hg] at h
    split at h
    · obtain rfl := Option.some.inj h
      exact ⟨.inr ⟨rfl, rfl⟩, rfl⟩
    · next h0 =>
      obtain rfl := Option.some.inj h
      exact ⟨.inl ⟨rfl, by have := hok.1.1; simp only; omega⟩, rfl⟩
  · cases h
theorem lookP_some {p : Int} {x y : Sn} (hl : y.ps.length = x.ps.length) : (lookP p x).isSome = (lookP p y).isSome := by
  unfold lookP
  rw [hl]
  split
  · split <;> split <;> rfl
  · rfl
theorem go_good (p : Int) : ∀ (l : List Le) (x : Sn) (done : List Sp) (cur : Option Sp), x.may = true → ((lookP p x).isSome = cur.isSome) → (∀ c, cur = some c → ∃ v, lookP p x = some v ∧ c.st = v.1 ∧ c.n = v.2.1 ∧ c.why = ByteArray.empty) → (cur = none → done = []) → (∀ s ∈ done, good s) → chain (done ++ cur.toList) →
    (∀ s ∈ go (lookP p) (fun _ => ByteArray.empty) l x (lookP p x) done cur, good s) ∧ chain (go (lookP p) (fun _ => ByteArray.empty) l x (lookP p x) done cur)
  | [], x, done, cur, hm, hs, hc, hn, hg, hch => by
    unfold go
    cases cur with
    | none => simpa using And.intro hg (by simpa using hch)
    | some c =>
      simp only [Option.map_some, Option.toList_some] at hch ⊢
      obtain ⟨v, h1, h2, h3, h4⟩ := hc c rfl
      have hv := (lookP_good hm h1).1
      refine ⟨fun s hs => ?_, chain_close hch⟩
      rcases List.mem_append.1 hs with hs | hs
      · exact hg s hs
      · rw [List.mem_singleton] at hs
        subst hs
        exact ⟨by simp only [close, h2, h3]; exact hv, h4⟩
  | e :: l, x, done, cur, hm, hs, hc, hn, hg, hch => by
    unfold go
    cases ha : Md.app x e.l with
    | none => exact ⟨fun s hs => by simp at hs, trivial⟩
    | some y =>
      have ht := Md.app_time ha
      have hl := lookP_some (p := p) ht.2.2.2.2.2
      simp only
      by_cases he : lookP p y = lookP p x
      · rw [if_pos he, ← he]
        exact go_good p l y done cur ht.2.2.2.1 (by rw [he]; exact hs) (by rw [he]; exact hc) hn hg hch
      · rw [if_neg he]
        cases cur with
        | none =>
          exfalso
          apply he
          rw [hs] at hl
          cases h1 : lookP p y with
          | none => cases h2 : lookP p x with
            | none => rfl
            | some v => rw [h2] at hs; cases hs
          | some v => rw [h1] at hl; cases hl
        | some c =>
          obtain ⟨v, h1, h2, h3, h4⟩ := hc c rfl
          have hv := (lookP_good hm h1)
          obtain ⟨u, hu⟩ : ∃ u, lookP p y = some u := by
            cases h1 : lookP p y with
            | none => rw [h1, hs] at hl; cases hl
            | some u => exact ⟨u, rfl⟩
          have hw := (lookP_good ht.2.2.2.1 hu)
          have hne : c.n ≠ u.2.1 := fun h => he (by
            rw [hu, h1]
            congr 1
            have e1 : u.2.1 = v.2.1 := by rw [← h, h3]
            have e2 : u.1 = v.1 := by rcases hv.1 with ⟨a, b⟩ | ⟨a, b⟩ <;> rcases hw.1 with ⟨a', b'⟩ | ⟨a', b'⟩ <;> omega
            have e3 : u.2.2 = v.2.2 := by rw [hv.2, hw.2]
            exact Prod.ext e2 (Prod.ext e1 e3))
          rw [hu]
          simp only [Option.map_some, Option.toList_some] at hch ⊢
          have := go_good p l y (done ++ [close y.time c]) (some (opn y.time ByteArray.empty u)) ht.2.2.2.1 (by rw [hu]; rfl) (fun c' hc' => ⟨u, hu, by obtain rfl := Option.some.inj hc'; exact ⟨rfl, rfl, rfl⟩⟩) (fun h => by cases h) (fun s hs => by
            rcases List.mem_append.1 hs with hs | hs
            · exact hg s hs
            · rw [List.mem_singleton] at hs
              subst hs
              exact ⟨by simp only [close, h2, h3]; exact hv.1, h4⟩) (chain_snoc (chain_close hch) (by simpa [close, opn] using hne))
          rw [hu] at this
          exact this
theorem ofP_good (x : Sn) (l : List Le) (p : Int) : (∀ s ∈ ofP x l p, good s) ∧ chain (ofP x l p) := by
  unfold ofP all
  split
  · next hm =>
    refine go_good p l x [] _ hm (by cases lookP p x <;> rfl) (fun c hc => ?_) (fun _ => rfl) (fun s hs => by simp at hs) ?_
    · cases h : lookP p x with
      | none => rw [h] at hc; cases hc
      | some v =>
        rw [h] at hc
        obtain rfl := Option.some.inj hc
        exact ⟨v, rfl, rfl, rfl, rfl⟩
    · cases lookP p x <;> exact trivial
  · exact ⟨fun s hs => by simp at hs, trivial⟩
end Sp
end Go.Proofs.YtohncgikdlbogaaDoor
namespace Go.Proofs.YtohncgikdlbogaaDoor
open Go.RowKit
theorem Sp.go_len (look : Sn → Option Vw) (why : Le → ByteArray) : ∀ (l : List Le) (x : Sn) (old : Option Vw) (done : List Sp) (cur : Option Sp), (Sp.go look why l x old done cur).length ≤ (done ++ cur.toList).length + l.length
  | [], x, old, done, cur => by unfold Sp.go; cases cur <;> simp
  | e :: l, x, old, done, cur => by
    unfold Sp.go
    cases h : Md.app x e.l with
    | none => simp
    | some y =>
      simp only
      split
      · have := Sp.go_len look why l y old done cur
        simp only [List.length_cons]
        omega
      · have := Sp.go_len look why l y (look y) (done ++ (cur.map (Sp.close y.time)).toList) ((look y).map (Sp.opn y.time (why e)))
        simp only [List.length_cons]
        refine Nat.le_trans this ?_
        cases cur <;> cases look y <;> simp <;> omega
theorem Sp.ofP_len (x : Sn) (l : List Le) (p : Int) : (Sp.ofP x l p).length ≤ 1 + l.length := by
  unfold Sp.ofP Sp.all
  split
  · have := Sp.go_len (Sp.lookP p) (fun _ => ByteArray.empty) l x (Sp.lookP p x) [] ((Sp.lookP p x).map (Sp.opn x.time ByteArray.empty))
    refine Nat.le_trans this ?_
    cases Sp.lookP p x <;> simp
  · simp
set_option maxRecDepth 100000 in
set_option maxHeartbeats 1000000 in
theorem lnsmall_any (v : Value) (s : Sn) (w : World) (hs : SnAt w v s) (r : Bool) (hr : (decide (s.ps.length ≤ 70) && decide (s.gs.length ≤ 100)) = r) :
    Calls Tryd.prog 6 #[v] w fun e w' => e = .returned (.bool r) ∧ Ext w w' := by
  obtain ⟨A, c, B, d, rfl, h2, h3⟩ := hs
  obtain ⟨time, ps, gs⟩ := s
  simp only at *
  clear h2 h3
  by_cases h1 : ps.length ≤ 70
  · by_cases h2 : gs.length ≤ 100
    · obtain rfl : r = true := by rw [← hr]; simp [h1, h2]
      have i1 : (ps.length : Int) ≤ 70 := by omega
      have i2 : (gs.length : Int) ≤ 100 := by omega
      clear h1 h2 hr
      have HB := Lib.hid (blk_new w (.cells #[.int .i64 time, .slice A ps.length c, .slice B gs.length d] 25))
      go_enter Tryd.func6, Tryd.ntmps6
      go_wp2
      go_ret
      exact ⟨by first | rfl | (simp; done) | (simp; omega), (Ext.refl w).alloc _⟩
    · obtain rfl : r = false := by rw [← hr]; simp [h1]; omega
      have i1 : (ps.length : Int) ≤ 70 := by omega
      have i2 : 100 < (gs.length : Int) := by omega
      clear h1 h2 hr
      have HB := Lib.hid (blk_new w (.cells #[.int .i64 time, .slice A ps.length c, .slice B gs.length d] 25))
      go_enter Tryd.func6, Tryd.ntmps6
      go_wp2
      go_ret
      exact ⟨by first | rfl | (simp; done) | (simp; omega), (Ext.refl w).alloc _⟩
  · obtain rfl : r = false := by rw [← hr]; simp [h1]
    have i1 : 70 < (ps.length : Int) := by omega
    clear h1 hr
    have HB := Lib.hid (blk_new w (.cells #[.int .i64 time, .slice A ps.length c, .slice B gs.length d] 25))
    go_enter Tryd.func6, Tryd.ntmps6
    go_wp2
    go_ret
    exact ⟨by first | rfl | (simp; done) | (simp; omega), (Ext.refl w).alloc _⟩
set_option maxRecDepth 100000 in
set_option maxHeartbeats 16000000 in
theorem walk_LinePs (v : Value) (x : Sn) (vl : Value) (es : List Le) (n : Int) (w : World) (hs : SnAt w v x) (hi : SnIn x) (hl : RowsAt 8 leL w vl es) (hel : es.length ≤ maxLen) (hle : ∀ e ∈ es, LeIn e) (hn : (Lit.int .i64 n).wf = true) (ht : Tab w) :
    Calls Tryd.prog 5 #[v, vl, .int .i64 n] w fun e w' => e = .returned (.bool true) ∧ Ext w w' := by
  obtain ⟨A, c, B, d, rfl, h2, h3⟩ := hs
  obtain ⟨Al, cl, rfl, -⟩ := hl.form
  have hst : ∀ e ∈ es, ∃ A n c, e.stack = .slice A n c := fun e he => (hle e he).1
  obtain ⟨w1, hw1⟩ : ∃ w1, w.alloc (.cells #[.int .i64 x.time, .slice A x.ps.length c, .slice B x.gs.length d] 25) = w1 := ⟨_, rfl⟩
  have hx1 : Ext w w1 := by rw [← hw1]; exact (Ext.refl w).alloc _
  have hb1 : w1.heap[w.heap.size]? = some (.cells #[.int .i64 x.time, .slice A x.ps.length c, .slice B x.gs.length d] 25 (0, 0)) := by rw [← hw1]; exact blk_new w _
  have HW1 := Lib.hid hw1
  have HX1 := Lib.hid hx1
  have HB1 := Lib.hid hb1
  have HSN : Hid (SnAt w1 (.agg #[.int .i64 x.time, .slice A x.ps.length c, .slice B x.gs.length d]) x) := Lib.hid ⟨A, c, B, d, rfl, h2.ext hx1, h3.ext hx1⟩
  have HLL := Lib.hid (hl.ext hx1)
  have HST := Lib.hid hst
  have HT := Lib.hid (ht.ext hx1)
  clear hw1 hx1 hb1 h2 h3 hl hle hst ht hi hn hel
  go_enter Tryd.func5, Tryd.ntmps5
  go_upto_region 1 with fail
  rw [HW1.out]
  go_wp2_with fail
  refine (lnfixed_yes _ HT.out).mono ?_
  rintro e w2 ⟨rfl, hx2⟩
  have X2 := Lib.hid hx2
  clear hx2
  have c0 := blk_cell (X2.out.blk HB1.out) 0 _ rfl
  have c1 := blk_cell (X2.out.blk HB1.out) 1 _ rfl
  have c2 := blk_cell (X2.out.blk HB1.out) 2 _ rfl
  go_wp2_with fail
  obtain ⟨sm, hsm⟩ : ∃ sm, (decide (x.ps.length ≤ 70) && decide (x.gs.length ≤ 100)) = sm := ⟨_, rfl⟩
  refine (lnsmall_any _ x w2 (HSN.out.ext X2.out) sm hsm).mono ?_
  rintro e w3 ⟨rfl, hx3⟩
  have X3 := Lib.hid (X2.out.trans hx3)
  clear hx3 c0 c1 c2
  cases sm with
  | false =>
    go_wp2_with fail
    refine (lnfixed_yes _ (HT.out.ext X3.out)).mono ?_
    rintro e w4 ⟨rfl, hx4⟩
    have X4 := Lib.hid (X3.out.trans hx4)
    clear hx4
    go_wp2
    go_ret
    exact ⟨rfl, HX1.out.trans X4.out⟩
  | true =>
  by_cases h80 : 80 < (es.length : Int)
  · have e1 : decide (80 < (es.length : Int)) = true := decide_eq_true h80
    clear h80
    go_wp2_with fail
    refine (lnfixed_yes _ (HT.out.ext X3.out)).mono ?_
    rintro e w4 ⟨rfl, hx4⟩
    have X4 := Lib.hid (X3.out.trans hx4)
    clear hx4
    go_wp2
    go_ret
    exact ⟨rfl, HX1.out.trans X4.out⟩
  have e1 : decide (80 < (es.length : Int)) = false := decide_eq_false h80
  have HEL : Hid (es.length ≤ 1000) := Lib.hid (by omega)
  clear h80
  have c0 := blk_cell (X3.out.blk HB1.out) 0 _ rfl
  have c1 := blk_cell (X3.out.blk HB1.out) 1 _ rfl
  have c2 := blk_cell (X3.out.blk HB1.out) 2 _ rfl
  go_wp2_with fail
  obtain ⟨r, hr⟩ : ∃ r, Sp.ofP x es n = r := ⟨_, rfl⟩
  refine (lnP_any _ _ x es n w3 (HSN.out.ext X3.out) (HLL.out.ext X3.out) HEL.out HST.out r hr).mono ?_
  rintro e w4 ⟨u, rfl, hru, hx4⟩
  have HGD : Hid ((∀ s ∈ r, Sp.good s) ∧ Sp.chain r) := Lib.hid (by rw [← hr]; exact Sp.ofP_good x es n)
  obtain ⟨Ar, cr, rfl, -⟩ := hru.form
  have HRU := Lib.hid hru
  have X4 := Lib.hid (X3.out.trans hx4)
  have HRL : Hid (r.length ≤ 1001) := Lib.hid (by rw [← hr]; exact Nat.le_trans (Sp.ofP_len x es n) (by have := HEL.out; omega))
  clear hru hx4 c0 c1 c2 hr e1
  go_wp2_with fail
  go_loopw [8] (fun iv wr => ∃ k : Nat, k ≤ r.length ∧ iv = .int .i64 k ∧ Ext w4 wr) (fun iv _ => r.length - (intOf iv).toNat)
  case atStart => exact ⟨0, Nat.zero_le _, rfl, Ext.refl _⟩
  case round =>
    obtain ⟨k, hk, rfl, hx⟩ := hrel
    have XR := Lib.hid hx
    clear hx
    by_cases hlt : k < r.length
    · obtain ⟨s, hsk⟩ : ∃ s, r[k]? = some s := ⟨_, List.getElem?_eq_getElem hlt⟩
      obtain ⟨hg, hw⟩ := HGD.out.1 s (List.mem_of_getElem? hsk)
      obtain ⟨b, o, hB, hb, hc⟩ := (HRU.out.ext XR.out).get hsk
      subst hB
      obtain ⟨sf, sl, ss, sn, sw⟩ := s
      dsimp only at hg hw
      subst hw
      have HSK := Lib.hid hsk
      have HBB := Lib.hid hb
      have hrl : (r.length : Int) ≤ 100000 := by
        have := HRL.out
        omega
      have HCE : Hid (∀ v, Ext wr v → v.cell? ⟨b, o + k * 5 + 2, none⟩ = some (.int .i64 ss) ∧ v.cell? ⟨b, o + k * 5 + 3, none⟩ = some (.int .i64 sn) ∧ v.cell? ⟨b, o + k * 5 + 4, none⟩ = some (.string ⟨#[]⟩)) := Lib.hid fun v hv => ⟨(Below.cell (p := ⟨b, o + k * 5 + 2, none⟩) hv hb).trans (hc 2 _ rfl), (Below.cell (p := ⟨b, o + k * 5 + 3, none⟩) hv hb).trans (hc 3 _ rfl), (Below.cell (p := ⟨b, o + k * 5 + 4, none⟩) hv hb).trans (hc 4 _ rfl)⟩
      have ecn : (0 : Int) = 0 := rfl
      clear hsk hb hc
      rcases hg with hg | hg
      · skip
        obtain ⟨rfl, hn1⟩ := hg
        have e1 : decide (0 < sn) = true := decide_eq_true hn1
        clear hn1
        cases k with
        | zero =>
          go_wp2_with fail
          refine region_rgx ([]) (wr) (by kernel_rfl) (by kernel_rfl) ?_ ?_ ?_
          · exact List.forall_mem_nil _
          · first | assumption | exact Ext.refl _
          refine rg_pure (v := ?_) rfl (by kernel_rfl) (by kernel_rfl) (fun w hS hN => ?_) ?_
          rotate_left 1
          · clear hN
            go_simp
            try simp only [e1, ecn]
            refine givesP_mk ?_
            with_reducible rfl
          refine rg_pure (v := ?_) rfl (by kernel_rfl) (by kernel_rfl) (fun w hS hN => ?_) ?_
          rotate_left 1
          · clear hN
            go_simp
            try simp only [e1, ecn]
            refine givesP_mk ?_
            with_reducible rfl
          refine rg_pure (v := ?_) rfl (by kernel_rfl) (by kernel_rfl) (fun w hS hN => ?_) ?_
          rotate_left 1
          · clear hN
            go_simp
            try simp only [e1, ecn]
            refine givesP_mk ?_
            with_reducible rfl
          refine rg_pure (v := ?_) rfl (by kernel_rfl) (by kernel_rfl) (fun w hS hN => ?_) ?_
          rotate_left 1
          · clear hN
            go_simp
            try simp only [e1, ecn]
            refine givesP_mk ?_
            with_reducible rfl
          refine rg_pure (v := ?_) rfl (by kernel_rfl) (by kernel_rfl) (fun w hS hN => ?_) ?_
          rotate_left 1
          · obtain ⟨k2, k3, k4⟩ := HCE.out w hS
            clear hN
            go_simp
            try simp only [e1, ecn]
            refine givesP_mk ?_
            with_reducible rfl
          refine rg_pure (v := ?_) rfl (by kernel_rfl) (by kernel_rfl) (fun w hS hN => ?_) ?_
          rotate_left 1
          · clear hN
            go_simp
            try simp only [e1, ecn]
            refine givesP_mk ?_
            with_reducible rfl
          refine rg_pure (v := ?_) rfl (by kernel_rfl) (by kernel_rfl) (fun w hS hN => ?_) ?_
          rotate_left 1
          · clear hN
            go_simp
            try simp only [e1, ecn]
            refine givesP_mk ?_
            with_reducible rfl
          refine rg_pure (v := ?_) rfl (by kernel_rfl) (by kernel_rfl) (fun w hS hN => ?_) ?_
          rotate_left 1
          · clear hN
            go_simp
            try simp only [e1, ecn]
            refine givesP_mk ?_
            with_reducible rfl
          refine rg_pure (v := ?_) rfl (by kernel_rfl) (by kernel_rfl) (fun w hS hN => ?_) ?_
          rotate_left 1
          · clear hN
            go_simp
            try simp only [e1, ecn]
            refine givesP_mk ?_
            with_reducible rfl
          refine rg_pure (v := ?_) rfl (by kernel_rfl) (by kernel_rfl) (fun w hS hN => ?_) ?_
          rotate_left 1
          · clear hN
            go_simp
            try simp only [e1, ecn]
            refine givesP_mk ?_
            with_reducible rfl
          refine rg_pure (v := ?_) rfl (by kernel_rfl) (by kernel_rfl) (fun w hS hN => ?_) ?_
          rotate_left 1
          · obtain ⟨k2, k3, k4⟩ := HCE.out w hS
            clear hN
            go_simp
            try simp only [e1, ecn]
            refine givesP_mk ?_
            with_reducible rfl
          refine rg_pure (v := ?_) rfl (by kernel_rfl) (by kernel_rfl) (fun w hS hN => ?_) ?_
          rotate_left 1
          · clear hN
            go_simp
            try simp only [e1, ecn]
            refine givesP_mk ?_
            with_reducible rfl
          refine rg_pure (v := ?_) rfl (by kernel_rfl) (by kernel_rfl) (fun w hS hN => ?_) ?_
          rotate_left 1
          · clear hN
            go_simp
            try simp only [e1, ecn]
            refine givesP_mk ?_
            with_reducible rfl
          refine rg_pure (v := ?_) rfl (by kernel_rfl) (by kernel_rfl) (fun w hS hN => ?_) ?_
          rotate_left 1
          · clear hN
            go_simp
            try simp only [e1, ecn]
            refine givesP_mk ?_
            with_reducible rfl
          refine rg_pure (v := ?_) rfl (by kernel_rfl) (by kernel_rfl) (fun w hS hN => ?_) ?_
          rotate_left 1
          · clear hN
            go_simp
            try simp only [e1, ecn]
            refine givesP_mk ?_
            with_reducible rfl
          refine rg_pure (v := ?_) rfl (by kernel_rfl) (by kernel_rfl) (fun w hS hN => ?_) ?_
          rotate_left 1
          · clear hN
            go_simp
            try simp only [e1, ecn]
            refine givesP_mk ?_
            with_reducible rfl
          refine rg_pure (v := ?_) rfl (by kernel_rfl) (by kernel_rfl) (fun w hS hN => ?_) ?_
          rotate_left 1
          · clear hN
            go_simp
            try simp only [e1, ecn]
            refine givesP_mk ?_
            with_reducible rfl
          refine rg_pure (v := ?_) rfl (by kernel_rfl) (by kernel_rfl) (fun w hS hN => ?_) ?_
          rotate_left 1
          · clear hN
            go_simp
            try simp only [e1, ecn]
            refine givesP_mk ?_
            with_reducible rfl
          refine rg_pure (v := ?_) rfl (by kernel_rfl) (by kernel_rfl) (fun w hS hN => ?_) ?_
          rotate_left 1
          · obtain ⟨k2, k3, k4⟩ := HCE.out w hS
            clear hN
            go_simp
            try simp only [e1, ecn]
            refine givesP_mk ?_
            with_reducible rfl
          refine rg_pure (v := ?_) rfl (by kernel_rfl) (by kernel_rfl) (fun w hS hN => ?_) ?_
          rotate_left 1
          · clear hN
            go_simp
            try simp only [e1, ecn]
            refine givesP_mk ?_
            with_reducible rfl
          refine rg_pure (v := ?_) rfl (by kernel_rfl) (by kernel_rfl) (fun w hS hN => ?_) ?_
          rotate_left 1
          · clear hN
            go_simp
            try simp only [e1, ecn]
            refine givesP_mk ?_
            with_reducible rfl
          refine rg_pure (v := ?_) rfl (by kernel_rfl) (by kernel_rfl) (fun w hS hN => ?_) ?_
          rotate_left 1
          · clear hN
            go_simp
            try simp only [e1, ecn]
            refine givesP_mk ?_
            with_reducible rfl
          refine rg_pure (v := ?_) rfl (by kernel_rfl) (by kernel_rfl) (fun w hS hN => ?_) ?_
          rotate_left 1
          · clear hN
            go_simp
            try simp only [e1, ecn]
            refine givesP_mk ?_
            with_reducible rfl
          refine rg_pure (v := ?_) rfl (by kernel_rfl) (by kernel_rfl) (fun w hS hN => ?_) ?_
          rotate_left 1
          · clear hN
            go_simp
            try simp only [e1, ecn]
            refine givesP_mk ?_
            with_reducible rfl
          refine rg_pure (v := ?_) rfl (by kernel_rfl) (by kernel_rfl) (fun w hS hN => ?_) ?_
          rotate_left 1
          · clear hN
            go_simp
            try simp only [e1, ecn]
            refine givesP_mk ?_
            with_reducible rfl
          refine rg_pure (v := ?_) rfl (by kernel_rfl) (by kernel_rfl) (fun w hS hN => ?_) ?_
          rotate_left 1
          · clear hN
            go_simp
            try simp only [e1, ecn]
            refine givesP_mk ?_
            with_reducible rfl
          refine rg_pure (v := ?_) rfl (by kernel_rfl) (by kernel_rfl) (fun w hS hN => ?_) ?_
          rotate_left 1
          · obtain ⟨k2, k3, k4⟩ := HCE.out w hS
            clear hN
            go_simp
            try simp only [e1, ecn]
            refine givesP_mk ?_
            with_reducible rfl
          refine rg_pure (v := ?_) rfl (by kernel_rfl) (by kernel_rfl) (fun w hS hN => ?_) ?_
          rotate_left 1
          · clear hN
            go_simp
            try simp only [e1, ecn]
            refine givesP_mk ?_
            with_reducible rfl
          refine rg_pure (v := ?_) rfl (by kernel_rfl) (by kernel_rfl) (fun w hS hN => ?_) ?_
          rotate_left 1
          · clear hN
            go_simp
            try simp only [e1, ecn]
            refine givesP_mk ?_
            with_reducible rfl
          refine rg_pure (v := ?_) rfl (by kernel_rfl) (by kernel_rfl) (fun w hS hN => ?_) ?_
          rotate_left 1
          · clear hN
            go_simp
            try simp only [e1, ecn]
            refine givesP_mk ?_
            with_reducible rfl
          refine rg_pure (v := ?_) rfl (by kernel_rfl) (by kernel_rfl) (fun w hS hN => ?_) ?_
          rotate_left 1
          · clear hN
            go_simp
            try simp only [e1, ecn]
            refine givesP_mk ?_
            with_reducible rfl
          refine rg_pure (v := ?_) rfl (by kernel_rfl) (by kernel_rfl) (fun w hS hN => ?_) ?_
          rotate_left 1
          · clear hN
            go_simp
            try simp only [e1, ecn]
            refine givesP_mk ?_
            with_reducible rfl
          refine rg_pure (v := ?_) rfl (by kernel_rfl) (by kernel_rfl) (fun w hS hN => ?_) ?_
          rotate_left 1
          · clear hN
            go_simp
            try simp only [e1, ecn]
            refine givesP_mk ?_
            with_reducible rfl
          refine rg_pure (v := ?_) rfl (by kernel_rfl) (by kernel_rfl) (fun w hS hN => ?_) ?_
          rotate_left 1
          · clear hN
            go_simp
            try simp only [e1, ecn]
            refine givesP_mk ?_
            with_reducible rfl
          refine rg_pure (v := ?_) rfl (by kernel_rfl) (by kernel_rfl) (fun w hS hN => ?_) ?_
          rotate_left 1
          · obtain ⟨k2, k3, k4⟩ := HCE.out w hS
            clear hN
            go_simp
            try simp only [e1, ecn]
            refine givesP_mk ?_
            with_reducible rfl
          refine rg_pure (v := ?_) rfl (by kernel_rfl) (by kernel_rfl) (fun w hS hN => ?_) ?_
          rotate_left 1
          · clear hN
            go_simp
            try simp only [e1, ecn]
            refine givesP_mk ?_
            with_reducible rfl
          refine rg_pure (v := ?_) rfl (by kernel_rfl) (by kernel_rfl) (fun w hS hN => ?_) ?_
          rotate_left 1
          · clear hN
            go_simp
            try simp only [e1, ecn]
            refine givesP_mk ?_
            with_reducible rfl
          refine rg_pure (v := ?_) rfl (by kernel_rfl) (by kernel_rfl) (fun w hS hN => ?_) ?_
          rotate_left 1
          · clear hN
            go_simp
            try simp only [e1, ecn]
            refine givesP_mk ?_
            with_reducible rfl
          refine rg_pure (v := ?_) rfl (by kernel_rfl) (by kernel_rfl) (fun w hS hN => ?_) ?_
          rotate_left 1
          · clear hN
            go_simp
            try simp only [e1, ecn]
            refine givesP_mk ?_
            with_reducible rfl
          refine rg_pure (v := ?_) rfl (by kernel_rfl) (by kernel_rfl) (fun w hS hN => ?_) ?_
          rotate_left 1
          · clear hN
            go_simp
            try simp only [e1, ecn]
            refine givesP_mk ?_
            with_reducible rfl
          refine rg_pure (v := ?_) rfl (by kernel_rfl) (by kernel_rfl) (fun w hS hN => ?_) ?_
          rotate_left 1
          · clear hN
            go_simp
            try simp only [e1, ecn]
            refine givesP_mk ?_
            with_reducible rfl
          refine rg_no rfl (by kernel_rfl) (by kernel_rfl) ?_
          refine rg_no rfl (by kernel_rfl) (by kernel_rfl) ?_
          refine rg_no rfl (by kernel_rfl) (by kernel_rfl) ?_
          refine rg_no rfl (by kernel_rfl) (by kernel_rfl) ?_
          refine rg_no rfl (by kernel_rfl) (by kernel_rfl) ?_
          refine rg_no rfl (by kernel_rfl) (by kernel_rfl) ?_
          refine rg_no rfl (by kernel_rfl) (by kernel_rfl) ?_
          refine rg_no rfl (by kernel_rfl) (by kernel_rfl) ?_
          refine rg_no rfl (by kernel_rfl) (by kernel_rfl) ?_
          refine rg_no rfl (by kernel_rfl) (by kernel_rfl) ?_
          refine rg_no rfl (by kernel_rfl) (by kernel_rfl) ?_
          refine rg_no rfl (by kernel_rfl) (by kernel_rfl) ?_
          refine rg_pure (v := ?_) rfl (by kernel_rfl) (by kernel_rfl) (fun w hS hN => ?_) ?_
          rotate_left 1
          · clear hN
            go_simp
            try simp only [e1, ecn]
            refine givesP_mk ?_
            with_reducible rfl
          refine rg_pure (v := ?_) rfl (by kernel_rfl) (by kernel_rfl) (fun w hS hN => ?_) ?_
          rotate_left 1
          · clear hN
            go_simp
            try simp only [e1, ecn]
            refine givesP_mk ?_
            with_reducible rfl
          refine rg_done rfl (Nat.le_of_ble_eq_true (by kernel_rfl)) ?_
          intro w8 hS hT
          have X8 := Lib.hid (XR.out.trans hS)
          clear hS hT
          go_simp
          go_wp2
          go_roundw
          case rel => exact ⟨0 + 1, by omega, by go_num, X8.out⟩
          case measure => simp [intOf]; omega
        | succ j =>
          obtain ⟨q, hq⟩ : ∃ q, r[j]? = some q := ⟨_, List.getElem?_eq_getElem (by omega)⟩
          have hne := Sp.chain_get HGD.out.2 j q _ hq HSK.out
          obtain ⟨qf, ql, qs, qn, qw⟩ := q
          obtain ⟨b', o', hB', _, hc'⟩ := (HRU.out.ext XR.out).get hq
          simp only [Option.some.injEq, Addr.mk.injEq, and_true] at hB'
          obtain ⟨rfl, rfl⟩ := hB'
          have HCP : Hid (∀ v, Ext wr v → v.cell? ⟨b, o + j * 5 + 3, none⟩ = some (.int .i64 qn)) := Lib.hid fun v hv => (Below.cell (p := ⟨b, o + j * 5 + 3, none⟩) hv HBB.out).trans (hc' 3 _ rfl)
          have f1 : ((j + 1 : Nat) : Int) - 1 = (j : Int) := by omega
          have f2 : (j : Int) < (r.length : Int) := by omega
          have f5 : IntKind.i64.wrap (j : Int) = (j : Int) := IntWalk.i64_in _ (by omega)
          have f6 : (0 ≤ (j : Int) ∧ (j : Int) < (r.length : Int)) = True := eq_true ⟨by omega, f2⟩
          have f3 : decide (0 < ((j + 1 : Nat) : Int)) = true := decide_eq_true (by omega)
          have f4 : (sn == qn) = false := by
            have : (sn : Int) ≠ qn := fun e => hne e.symm
            simpa using this
          clear hq hne hc'
          go_wp2_with fail
          refine region_rgx ([]) (wr) (by kernel_rfl) (by kernel_rfl) ?_ ?_ ?_
          · exact List.forall_mem_nil _
          · first | assumption | exact Ext.refl _
          refine rg_pure (v := ?_) rfl (by kernel_rfl) (by kernel_rfl) (fun w hS hN => ?_) ?_
          rotate_left 1
          · clear hN
            go_simp
            try simp only [e1, f3, f4, f5, f6, if_true, Int.toNat_natCast, ecn]
            refine givesP_mk ?_
            with_reducible rfl
          refine rg_pure (v := ?_) rfl (by kernel_rfl) (by kernel_rfl) (fun w hS hN => ?_) ?_
          rotate_left 1
          · clear hN
            go_simp
            try simp only [e1, f3, f4, f5, f6, if_true, Int.toNat_natCast, ecn]
            refine givesP_mk ?_
            with_reducible rfl
          refine rg_pure (v := ?_) rfl (by kernel_rfl) (by kernel_rfl) (fun w hS hN => ?_) ?_
          rotate_left 1
          · clear hN
            go_simp
            try simp only [e1, f3, f4, f5, f6, if_true, Int.toNat_natCast, ecn]
            refine givesP_mk ?_
            with_reducible rfl
          refine rg_pure (v := ?_) rfl (by kernel_rfl) (by kernel_rfl) (fun w hS hN => ?_) ?_
          rotate_left 1
          · clear hN
            go_simp
            try simp only [e1, f3, f4, f5, f6, if_true, Int.toNat_natCast, ecn]
            refine givesP_mk ?_
            with_reducible rfl
          refine rg_pure (v := ?_) rfl (by kernel_rfl) (by kernel_rfl) (fun w hS hN => ?_) ?_
          rotate_left 1
          · obtain ⟨k2, k3, k4⟩ := HCE.out w hS
            clear hN
            go_simp
            try simp only [e1, f3, f4, f5, f6, if_true, Int.toNat_natCast, ecn]
            refine givesP_mk ?_
            with_reducible rfl
          refine rg_pure (v := ?_) rfl (by kernel_rfl) (by kernel_rfl) (fun w hS hN => ?_) ?_
          rotate_left 1
          · clear hN
            go_simp
            try simp only [e1, f3, f4, f5, f6, if_true, Int.toNat_natCast, ecn]
            refine givesP_mk ?_
            with_reducible rfl
          refine rg_pure (v := ?_) rfl (by kernel_rfl) (by kernel_rfl) (fun w hS hN => ?_) ?_
          rotate_left 1
          · clear hN
            go_simp
            try simp only [e1, f3, f4, f5, f6, if_true, Int.toNat_natCast, ecn]
            refine givesP_mk ?_
            with_reducible rfl
          refine rg_pure (v := ?_) rfl (by kernel_rfl) (by kernel_rfl) (fun w hS hN => ?_) ?_
          rotate_left 1
          · clear hN
            go_simp
            try simp only [e1, f3, f4, f5, f6, if_true, Int.toNat_natCast, ecn]
            refine givesP_mk ?_
            with_reducible rfl
          refine rg_pure (v := ?_) rfl (by kernel_rfl) (by kernel_rfl) (fun w hS hN => ?_) ?_
          rotate_left 1
          · clear hN
            go_simp
            try simp only [e1, f3, f4, f5, f6, if_true, Int.toNat_natCast, ecn]
            refine givesP_mk ?_
            with_reducible rfl
          refine rg_pure (v := ?_) rfl (by kernel_rfl) (by kernel_rfl) (fun w hS hN => ?_) ?_
          rotate_left 1
          · clear hN
            go_simp
            try simp only [e1, f3, f4, f5, f6, if_true, Int.toNat_natCast, ecn]
            refine givesP_mk ?_
            with_reducible rfl
          refine rg_pure (v := ?_) rfl (by kernel_rfl) (by kernel_rfl) (fun w hS hN => ?_) ?_
          rotate_left 1
          · obtain ⟨k2, k3, k4⟩ := HCE.out w hS
            clear hN
            go_simp
            try simp only [e1, f3, f4, f5, f6, if_true, Int.toNat_natCast, ecn]
            refine givesP_mk ?_
            with_reducible rfl
          refine rg_pure (v := ?_) rfl (by kernel_rfl) (by kernel_rfl) (fun w hS hN => ?_) ?_
          rotate_left 1
          · clear hN
            go_simp
            try simp only [e1, f3, f4, f5, f6, if_true, Int.toNat_natCast, ecn]
            refine givesP_mk ?_
            with_reducible rfl
          refine rg_pure (v := ?_) rfl (by kernel_rfl) (by kernel_rfl) (fun w hS hN => ?_) ?_
          rotate_left 1
          · clear hN
            go_simp
            try simp only [e1, f3, f4, f5, f6, if_true, Int.toNat_natCast, ecn]
            refine givesP_mk ?_
            with_reducible rfl
          refine rg_pure (v := ?_) rfl (by kernel_rfl) (by kernel_rfl) (fun w hS hN => ?_) ?_
          rotate_left 1
          · clear hN
            go_simp
            try simp only [e1, f3, f4, f5, f6, if_true, Int.toNat_natCast, ecn]
            refine givesP_mk ?_
            with_reducible rfl
          refine rg_pure (v := ?_) rfl (by kernel_rfl) (by kernel_rfl) (fun w hS hN => ?_) ?_
          rotate_left 1
          · clear hN
            go_simp
            try simp only [e1, f3, f4, f5, f6, if_true, Int.toNat_natCast, ecn]
            refine givesP_mk ?_
            with_reducible rfl
          refine rg_pure (v := ?_) rfl (by kernel_rfl) (by kernel_rfl) (fun w hS hN => ?_) ?_
          rotate_left 1
          · clear hN
            go_simp
            try simp only [e1, f3, f4, f5, f6, if_true, Int.toNat_natCast, ecn]
            refine givesP_mk ?_
            with_reducible rfl
          refine rg_pure (v := ?_) rfl (by kernel_rfl) (by kernel_rfl) (fun w hS hN => ?_) ?_
          rotate_left 1
          · clear hN
            go_simp
            try simp only [e1, f3, f4, f5, f6, if_true, Int.toNat_natCast, ecn]
            refine givesP_mk ?_
            with_reducible rfl
          refine rg_pure (v := ?_) rfl (by kernel_rfl) (by kernel_rfl) (fun w hS hN => ?_) ?_
          rotate_left 1
          · clear hN
            go_simp
            try simp only [e1, f3, f4, f5, f6, if_true, Int.toNat_natCast, ecn]
            refine givesP_mk ?_
            with_reducible rfl
          refine rg_pure (v := ?_) rfl (by kernel_rfl) (by kernel_rfl) (fun w hS hN => ?_) ?_
          rotate_left 1
          · obtain ⟨k2, k3, k4⟩ := HCE.out w hS
            clear hN
            go_simp
            try simp only [e1, f3, f4, f5, f6, if_true, Int.toNat_natCast, ecn]
            refine givesP_mk ?_
            with_reducible rfl
          refine rg_pure (v := ?_) rfl (by kernel_rfl) (by kernel_rfl) (fun w hS hN => ?_) ?_
          rotate_left 1
          · clear hN
            go_simp
            try simp only [e1, f3, f4, f5, f6, if_true, Int.toNat_natCast, ecn]
            refine givesP_mk ?_
            with_reducible rfl
          refine rg_pure (v := ?_) rfl (by kernel_rfl) (by kernel_rfl) (fun w hS hN => ?_) ?_
          rotate_left 1
          · clear hN
            go_simp
            try simp only [e1, f3, f4, f5, f6, if_true, Int.toNat_natCast, ecn]
            refine givesP_mk ?_
            with_reducible rfl
          refine rg_pure (v := ?_) rfl (by kernel_rfl) (by kernel_rfl) (fun w hS hN => ?_) ?_
          rotate_left 1
          · clear hN
            go_simp
            try simp only [e1, f3, f4, f5, f6, if_true, Int.toNat_natCast, ecn]
            refine givesP_mk ?_
            with_reducible rfl
          refine rg_pure (v := ?_) rfl (by kernel_rfl) (by kernel_rfl) (fun w hS hN => ?_) ?_
          rotate_left 1
          · clear hN
            go_simp
            try simp only [e1, f3, f4, f5, f6, if_true, Int.toNat_natCast, ecn]
            refine givesP_mk ?_
            with_reducible rfl
          refine rg_pure (v := ?_) rfl (by kernel_rfl) (by kernel_rfl) (fun w hS hN => ?_) ?_
          rotate_left 1
          · clear hN
            go_simp
            try simp only [e1, f3, f4, f5, f6, if_true, Int.toNat_natCast, ecn]
            refine givesP_mk ?_
            with_reducible rfl
          refine rg_pure (v := ?_) rfl (by kernel_rfl) (by kernel_rfl) (fun w hS hN => ?_) ?_
          rotate_left 1
          · clear hN
            go_simp
            try simp only [e1, f3, f4, f5, f6, if_true, Int.toNat_natCast, ecn]
            refine givesP_mk ?_
            with_reducible rfl
          refine rg_pure (v := ?_) rfl (by kernel_rfl) (by kernel_rfl) (fun w hS hN => ?_) ?_
          rotate_left 1
          · clear hN
            go_simp
            try simp only [e1, f3, f4, f5, f6, if_true, Int.toNat_natCast, ecn]
            refine givesP_mk ?_
            with_reducible rfl
          refine rg_pure (v := ?_) rfl (by kernel_rfl) (by kernel_rfl) (fun w hS hN => ?_) ?_
          rotate_left 1
          · obtain ⟨k2, k3, k4⟩ := HCE.out w hS
            clear hN
            go_simp
            try simp only [e1, f3, f4, f5, f6, if_true, Int.toNat_natCast, ecn]
            refine givesP_mk ?_
            with_reducible rfl
          refine rg_pure (v := ?_) rfl (by kernel_rfl) (by kernel_rfl) (fun w hS hN => ?_) ?_
          rotate_left 1
          · clear hN
            go_simp
            try simp only [e1, f3, f4, f5, f6, if_true, Int.toNat_natCast, ecn]
            refine givesP_mk ?_
            with_reducible rfl
          refine rg_pure (v := ?_) rfl (by kernel_rfl) (by kernel_rfl) (fun w hS hN => ?_) ?_
          rotate_left 1
          · clear hN
            go_simp
            try simp only [e1, f3, f4, f5, f6, if_true, Int.toNat_natCast, ecn]
            refine givesP_mk ?_
            with_reducible rfl
          refine rg_pure (v := ?_) rfl (by kernel_rfl) (by kernel_rfl) (fun w hS hN => ?_) ?_
          rotate_left 1
          · clear hN
            go_simp
            try simp only [e1, f3, f4, f5, f6, if_true, Int.toNat_natCast, ecn]
            refine givesP_mk ?_
            with_reducible rfl
          refine rg_pure (v := ?_) rfl (by kernel_rfl) (by kernel_rfl) (fun w hS hN => ?_) ?_
          rotate_left 1
          · clear hN
            go_simp
            try simp only [e1, f3, f4, f5, f6, if_true, Int.toNat_natCast, ecn]
            refine givesP_mk ?_
            with_reducible rfl
          refine rg_pure (v := ?_) rfl (by kernel_rfl) (by kernel_rfl) (fun w hS hN => ?_) ?_
          rotate_left 1
          · clear hN
            go_simp
            try simp only [e1, f3, f4, f5, f6, if_true, Int.toNat_natCast, ecn]
            refine givesP_mk ?_
            with_reducible rfl
          refine rg_pure (v := ?_) rfl (by kernel_rfl) (by kernel_rfl) (fun w hS hN => ?_) ?_
          rotate_left 1
          · clear hN
            go_simp
            try simp only [e1, f3, f4, f5, f6, if_true, Int.toNat_natCast, ecn]
            refine givesP_mk ?_
            with_reducible rfl
          refine rg_pure (v := ?_) rfl (by kernel_rfl) (by kernel_rfl) (fun w hS hN => ?_) ?_
          rotate_left 1
          · clear hN
            go_simp
            try simp only [e1, f3, f4, f5, f6, if_true, Int.toNat_natCast, ecn]
            refine givesP_mk ?_
            with_reducible rfl
          refine rg_pure (v := ?_) rfl (by kernel_rfl) (by kernel_rfl) (fun w hS hN => ?_) ?_
          rotate_left 1
          · obtain ⟨k2, k3, k4⟩ := HCE.out w hS
            clear hN
            go_simp
            try simp only [e1, f3, f4, f5, f6, if_true, Int.toNat_natCast, ecn]
            refine givesP_mk ?_
            with_reducible rfl
          refine rg_pure (v := ?_) rfl (by kernel_rfl) (by kernel_rfl) (fun w hS hN => ?_) ?_
          rotate_left 1
          · clear hN
            go_simp
            try simp only [e1, f3, f4, f5, f6, if_true, Int.toNat_natCast, ecn]
            refine givesP_mk ?_
            with_reducible rfl
          refine rg_pure (v := ?_) rfl (by kernel_rfl) (by kernel_rfl) (fun w hS hN => ?_) ?_
          rotate_left 1
          · clear hN
            go_simp
            try simp only [e1, f3, f4, f5, f6, if_true, Int.toNat_natCast, ecn]
            refine givesP_mk ?_
            with_reducible rfl
          refine rg_pure (v := ?_) rfl (by kernel_rfl) (by kernel_rfl) (fun w hS hN => ?_) ?_
          rotate_left 1
          · clear hN
            go_simp
            try simp only [e1, f3, f4, f5, f6, if_true, Int.toNat_natCast, ecn]
            refine givesP_mk ?_
            with_reducible rfl
          refine rg_pure (v := ?_) rfl (by kernel_rfl) (by kernel_rfl) (fun w hS hN => ?_) ?_
          rotate_left 1
          · clear hN
            go_simp
            try simp only [e1, f3, f4, f5, f6, if_true, Int.toNat_natCast, ecn]
            refine givesP_mk ?_
            with_reducible rfl
          refine rg_pure (v := ?_) rfl (by kernel_rfl) (by kernel_rfl) (fun w hS hN => ?_) ?_
          rotate_left 1
          · clear hN
            go_simp
            try simp only [e1, f3, f4, f5, f6, if_true, Int.toNat_natCast, ecn]
            refine givesP_mk ?_
            with_reducible rfl
          refine rg_pure (v := ?_) rfl (by kernel_rfl) (by kernel_rfl) (fun w hS hN => ?_) ?_
          rotate_left 1
          · clear hN
            go_simp
            try simp only [e1, f3, f4, f5, f6, if_true, Int.toNat_natCast, ecn]
            refine givesP_mk ?_
            with_reducible rfl
          refine rg_pure (v := ?_) rfl (by kernel_rfl) (by kernel_rfl) (fun w hS hN => ?_) ?_
          rotate_left 1
          · clear hN
            go_simp
            try simp only [e1, f3, f4, f5, f6, if_true, Int.toNat_natCast, ecn]
            refine givesP_mk ?_
            with_reducible rfl
          refine rg_pure (v := ?_) rfl (by kernel_rfl) (by kernel_rfl) (fun w hS hN => ?_) ?_
          rotate_left 1
          · clear hN
            go_simp
            try simp only [e1, f3, f4, f5, f6, if_true, Int.toNat_natCast, ecn]
            refine givesP_mk ?_
            with_reducible rfl
          refine rg_pure (v := ?_) rfl (by kernel_rfl) (by kernel_rfl) (fun w hS hN => ?_) ?_
          rotate_left 1
          · clear hN
            go_simp
            try simp only [e1, f3, f4, f5, f6, if_true, Int.toNat_natCast, ecn]
            refine givesP_mk ?_
            with_reducible rfl
          refine rg_pure (v := ?_) rfl (by kernel_rfl) (by kernel_rfl) (fun w hS hN => ?_) ?_
          rotate_left 1
          · clear hN
            go_simp
            try simp only [e1, f3, f4, f5, f6, if_true, Int.toNat_natCast, ecn]
            refine givesP_mk ?_
            with_reducible rfl
          refine rg_pure (v := ?_) rfl (by kernel_rfl) (by kernel_rfl) (fun w hS hN => ?_) ?_
          rotate_left 1
          · obtain ⟨k2, k3, k4⟩ := HCE.out w hS
            clear hN
            go_simp
            try simp only [e1, f3, f4, f5, f6, if_true, Int.toNat_natCast, ecn]
            refine givesP_mk ?_
            with_reducible rfl
          refine rg_pure (v := ?_) rfl (by kernel_rfl) (by kernel_rfl) (fun w hS hN => ?_) ?_
          rotate_left 1
          · clear hN
            go_simp
            try simp only [e1, f3, f4, f5, f6, if_true, Int.toNat_natCast, ecn]
            refine givesP_mk ?_
            with_reducible rfl
          refine rg_pure (v := ?_) rfl (by kernel_rfl) (by kernel_rfl) (fun w hS hN => ?_) ?_
          rotate_left 1
          · clear hN
            go_simp
            try simp only [e1, f3, f4, f5, f6, if_true, Int.toNat_natCast, ecn]
            refine givesP_mk ?_
            with_reducible rfl
          refine rg_pure (v := ?_) rfl (by kernel_rfl) (by kernel_rfl) (fun w hS hN => ?_) ?_
          rotate_left 1
          · clear hN
            go_simp
            try simp only [e1, f3, f4, f5, f6, if_true, Int.toNat_natCast, ecn]
            refine givesP_mk ?_
            with_reducible rfl
          refine rg_pure (v := ?_) rfl (by kernel_rfl) (by kernel_rfl) (fun w hS hN => ?_) ?_
          rotate_left 1
          · clear hN
            go_simp
            try simp only [e1, f3, f4, f5, f6, if_true, Int.toNat_natCast, ecn]
            refine givesP_mk ?_
            with_reducible rfl
          refine rg_pure (v := ?_) rfl (by kernel_rfl) (by kernel_rfl) (fun w hS hN => ?_) ?_
          rotate_left 1
          · clear hN
            go_simp
            try simp only [e1, f3, f4, f5, f6, if_true, Int.toNat_natCast, ecn]
            refine givesP_mk ?_
            with_reducible rfl
          refine rg_pure (v := ?_) rfl (by kernel_rfl) (by kernel_rfl) (fun w hS hN => ?_) ?_
          rotate_left 1
          · have kp := HCP.out w hS
            clear hN
            go_simp
            try simp only [e1, f3, f4, f5, f6, if_true, Int.toNat_natCast, ecn]
            refine givesP_mk ?_
            with_reducible rfl
          refine rg_pure (v := ?_) rfl (by kernel_rfl) (by kernel_rfl) (fun w hS hN => ?_) ?_
          rotate_left 1
          · clear hN
            go_simp
            try simp only [e1, f3, f4, f5, f6, if_true, Int.toNat_natCast, ecn]
            refine givesP_mk ?_
            with_reducible rfl
          refine rg_pure (v := ?_) rfl (by kernel_rfl) (by kernel_rfl) (fun w hS hN => ?_) ?_
          rotate_left 1
          · clear hN
            go_simp
            try simp only [e1, f3, f4, f5, f6, if_true, Int.toNat_natCast, ecn]
            refine givesP_mk ?_
            with_reducible rfl
          refine rg_pure (v := ?_) rfl (by kernel_rfl) (by kernel_rfl) (fun w hS hN => ?_) ?_
          rotate_left 1
          · clear hN
            go_simp
            try simp only [e1, f3, f4, f5, f6, if_true, Int.toNat_natCast, ecn]
            refine givesP_mk ?_
            with_reducible rfl
          refine rg_done rfl (Nat.le_of_ble_eq_true (by kernel_rfl)) ?_
          intro w8 hS hT
          have X8 := Lib.hid (XR.out.trans hS)
          clear hS hT
          go_simp
          go_wp2
          go_roundw
          case rel => exact ⟨(j + 1) + 1, by omega, by go_num, X8.out⟩
          case measure => simp [intOf]; omega
      · skip
        obtain ⟨rfl, rfl⟩ := hg
        cases k with
        | zero =>
          go_wp2_with fail
          refine region_rgx ([]) (wr) (by kernel_rfl) (by kernel_rfl) ?_ ?_ ?_
          · exact List.forall_mem_nil _
          · first | assumption | exact Ext.refl _
          refine rg_pure (v := ?_) rfl (by kernel_rfl) (by kernel_rfl) (fun w hS hN => ?_) ?_
          rotate_left 1
          · clear hN
            go_simp
            try simp only [ecn]
            refine givesP_mk ?_
            with_reducible rfl
          refine rg_pure (v := ?_) rfl (by kernel_rfl) (by kernel_rfl) (fun w hS hN => ?_) ?_
          rotate_left 1
          · clear hN
            go_simp
            try simp only [ecn]
            refine givesP_mk ?_
            with_reducible rfl
          refine rg_pure (v := ?_) rfl (by kernel_rfl) (by kernel_rfl) (fun w hS hN => ?_) ?_
          rotate_left 1
          · clear hN
            go_simp
            try simp only [ecn]
            refine givesP_mk ?_
            with_reducible rfl
          refine rg_pure (v := ?_) rfl (by kernel_rfl) (by kernel_rfl) (fun w hS hN => ?_) ?_
          rotate_left 1
          · clear hN
            go_simp
            try simp only [ecn]
            refine givesP_mk ?_
            with_reducible rfl
          refine rg_pure (v := ?_) rfl (by kernel_rfl) (by kernel_rfl) (fun w hS hN => ?_) ?_
          rotate_left 1
          · obtain ⟨k2, k3, k4⟩ := HCE.out w hS
            clear hN
            go_simp
            try simp only [ecn]
            refine givesP_mk ?_
            with_reducible rfl
          refine rg_pure (v := ?_) rfl (by kernel_rfl) (by kernel_rfl) (fun w hS hN => ?_) ?_
          rotate_left 1
          · clear hN
            go_simp
            try simp only [ecn]
            refine givesP_mk ?_
            with_reducible rfl
          refine rg_pure (v := ?_) rfl (by kernel_rfl) (by kernel_rfl) (fun w hS hN => ?_) ?_
          rotate_left 1
          · clear hN
            go_simp
            try simp only [ecn]
            refine givesP_mk ?_
            with_reducible rfl
          refine rg_pure (v := ?_) rfl (by kernel_rfl) (by kernel_rfl) (fun w hS hN => ?_) ?_
          rotate_left 1
          · clear hN
            go_simp
            try simp only [ecn]
            refine givesP_mk ?_
            with_reducible rfl
          refine rg_pure (v := ?_) rfl (by kernel_rfl) (by kernel_rfl) (fun w hS hN => ?_) ?_
          rotate_left 1
          · clear hN
            go_simp
            try simp only [ecn]
            refine givesP_mk ?_
            with_reducible rfl
          refine rg_pure (v := ?_) rfl (by kernel_rfl) (by kernel_rfl) (fun w hS hN => ?_) ?_
          rotate_left 1
          · clear hN
            go_simp
            try simp only [ecn]
            refine givesP_mk ?_
            with_reducible rfl
          refine rg_pure (v := ?_) rfl (by kernel_rfl) (by kernel_rfl) (fun w hS hN => ?_) ?_
          rotate_left 1
          · obtain ⟨k2, k3, k4⟩ := HCE.out w hS
            clear hN
            go_simp
            try simp only [ecn]
            refine givesP_mk ?_
            with_reducible rfl
          refine rg_pure (v := ?_) rfl (by kernel_rfl) (by kernel_rfl) (fun w hS hN => ?_) ?_
          rotate_left 1
          · clear hN
            go_simp
            try simp only [ecn]
            refine givesP_mk ?_
            with_reducible rfl
          refine rg_pure (v := ?_) rfl (by kernel_rfl) (by kernel_rfl) (fun w hS hN => ?_) ?_
          rotate_left 1
          · clear hN
            go_simp
            try simp only [ecn]
            refine givesP_mk ?_
            with_reducible rfl
          refine rg_pure (v := ?_) rfl (by kernel_rfl) (by kernel_rfl) (fun w hS hN => ?_) ?_
          rotate_left 1
          · clear hN
            go_simp
            try simp only [ecn]
            refine givesP_mk ?_
            with_reducible rfl
          refine rg_pure (v := ?_) rfl (by kernel_rfl) (by kernel_rfl) (fun w hS hN => ?_) ?_
          rotate_left 1
          · clear hN
            go_simp
            try simp only [ecn]
            refine givesP_mk ?_
            with_reducible rfl
          refine rg_pure (v := ?_) rfl (by kernel_rfl) (by kernel_rfl) (fun w hS hN => ?_) ?_
          rotate_left 1
          · clear hN
            go_simp
            try simp only [ecn]
            refine givesP_mk ?_
            with_reducible rfl
          refine rg_pure (v := ?_) rfl (by kernel_rfl) (by kernel_rfl) (fun w hS hN => ?_) ?_
          rotate_left 1
          · clear hN
            go_simp
            try simp only [ecn]
            refine givesP_mk ?_
            with_reducible rfl
          refine rg_pure (v := ?_) rfl (by kernel_rfl) (by kernel_rfl) (fun w hS hN => ?_) ?_
          rotate_left 1
          · clear hN
            go_simp
            try simp only [ecn]
            refine givesP_mk ?_
            with_reducible rfl
          refine rg_pure (v := ?_) rfl (by kernel_rfl) (by kernel_rfl) (fun w hS hN => ?_) ?_
          rotate_left 1
          · obtain ⟨k2, k3, k4⟩ := HCE.out w hS
            clear hN
            go_simp
            try simp only [ecn]
            refine givesP_mk ?_
            with_reducible rfl
          refine rg_pure (v := ?_) rfl (by kernel_rfl) (by kernel_rfl) (fun w hS hN => ?_) ?_
          rotate_left 1
          · clear hN
            go_simp
            try simp only [ecn]
            refine givesP_mk ?_
            with_reducible rfl
          refine rg_pure (v := ?_) rfl (by kernel_rfl) (by kernel_rfl) (fun w hS hN => ?_) ?_
          rotate_left 1
          · clear hN
            go_simp
            try simp only [ecn]
            refine givesP_mk ?_
            with_reducible rfl
          refine rg_pure (v := ?_) rfl (by kernel_rfl) (by kernel_rfl) (fun w hS hN => ?_) ?_
          rotate_left 1
          · clear hN
            go_simp
            try simp only [ecn]
            refine givesP_mk ?_
            with_reducible rfl
          refine rg_pure (v := ?_) rfl (by kernel_rfl) (by kernel_rfl) (fun w hS hN => ?_) ?_
          rotate_left 1
          · clear hN
            go_simp
            try simp only [ecn]
            refine givesP_mk ?_
            with_reducible rfl
          refine rg_pure (v := ?_) rfl (by kernel_rfl) (by kernel_rfl) (fun w hS hN => ?_) ?_
          rotate_left 1
          · clear hN
            go_simp
            try simp only [ecn]
            refine givesP_mk ?_
            with_reducible rfl
          refine rg_pure (v := ?_) rfl (by kernel_rfl) (by kernel_rfl) (fun w hS hN => ?_) ?_
          rotate_left 1
          · clear hN
            go_simp
            try simp only [ecn]
            refine givesP_mk ?_
            with_reducible rfl
          refine rg_pure (v := ?_) rfl (by kernel_rfl) (by kernel_rfl) (fun w hS hN => ?_) ?_
          rotate_left 1
          · clear hN
            go_simp
            try simp only [ecn]
            refine givesP_mk ?_
            with_reducible rfl
          refine rg_pure (v := ?_) rfl (by kernel_rfl) (by kernel_rfl) (fun w hS hN => ?_) ?_
          rotate_left 1
          · obtain ⟨k2, k3, k4⟩ := HCE.out w hS
            clear hN
            go_simp
            try simp only [ecn]
            refine givesP_mk ?_
            with_reducible rfl
          refine rg_pure (v := ?_) rfl (by kernel_rfl) (by kernel_rfl) (fun w hS hN => ?_) ?_
          rotate_left 1
          · clear hN
            go_simp
            try simp only [ecn]
            refine givesP_mk ?_
            with_reducible rfl
          refine rg_pure (v := ?_) rfl (by kernel_rfl) (by kernel_rfl) (fun w hS hN => ?_) ?_
          rotate_left 1
          · clear hN
            go_simp
            try simp only [ecn]
            refine givesP_mk ?_
            with_reducible rfl
          refine rg_pure (v := ?_) rfl (by kernel_rfl) (by kernel_rfl) (fun w hS hN => ?_) ?_
          rotate_left 1
          · clear hN
            go_simp
            try simp only [ecn]
            refine givesP_mk ?_
            with_reducible rfl
          refine rg_pure (v := ?_) rfl (by kernel_rfl) (by kernel_rfl) (fun w hS hN => ?_) ?_
          rotate_left 1
          · clear hN
            go_simp
            try simp only [ecn]
            refine givesP_mk ?_
            with_reducible rfl
          refine rg_pure (v := ?_) rfl (by kernel_rfl) (by kernel_rfl) (fun w hS hN => ?_) ?_
          rotate_left 1
          · clear hN
            go_simp
            try simp only [ecn]
            refine givesP_mk ?_
            with_reducible rfl
          refine rg_pure (v := ?_) rfl (by kernel_rfl) (by kernel_rfl) (fun w hS hN => ?_) ?_
          rotate_left 1
          · clear hN
            go_simp
            try simp only [ecn]
            refine givesP_mk ?_
            with_reducible rfl
          refine rg_pure (v := ?_) rfl (by kernel_rfl) (by kernel_rfl) (fun w hS hN => ?_) ?_
          rotate_left 1
          · clear hN
            go_simp
            try simp only [ecn]
            refine givesP_mk ?_
            with_reducible rfl
          refine rg_pure (v := ?_) rfl (by kernel_rfl) (by kernel_rfl) (fun w hS hN => ?_) ?_
          rotate_left 1
          · obtain ⟨k2, k3, k4⟩ := HCE.out w hS
            clear hN
            go_simp
            try simp only [ecn]
            refine givesP_mk ?_
            with_reducible rfl
          refine rg_pure (v := ?_) rfl (by kernel_rfl) (by kernel_rfl) (fun w hS hN => ?_) ?_
          rotate_left 1
          · clear hN
            go_simp
            try simp only [ecn]
            refine givesP_mk ?_
            with_reducible rfl
          refine rg_pure (v := ?_) rfl (by kernel_rfl) (by kernel_rfl) (fun w hS hN => ?_) ?_
          rotate_left 1
          · clear hN
            go_simp
            try simp only [ecn]
            refine givesP_mk ?_
            with_reducible rfl
          refine rg_pure (v := ?_) rfl (by kernel_rfl) (by kernel_rfl) (fun w hS hN => ?_) ?_
          rotate_left 1
          · clear hN
            go_simp
            try simp only [ecn]
            refine givesP_mk ?_
            with_reducible rfl
          refine rg_pure (v := ?_) rfl (by kernel_rfl) (by kernel_rfl) (fun w hS hN => ?_) ?_
          rotate_left 1
          · clear hN
            go_simp
            try simp only [ecn]
            refine givesP_mk ?_
            with_reducible rfl
          refine rg_pure (v := ?_) rfl (by kernel_rfl) (by kernel_rfl) (fun w hS hN => ?_) ?_
          rotate_left 1
          · clear hN
            go_simp
            try simp only [ecn]
            refine givesP_mk ?_
            with_reducible rfl
          refine rg_pure (v := ?_) rfl (by kernel_rfl) (by kernel_rfl) (fun w hS hN => ?_) ?_
          rotate_left 1
          · clear hN
            go_simp
            try simp only [ecn]
            refine givesP_mk ?_
            with_reducible rfl
          refine rg_no rfl (by kernel_rfl) (by kernel_rfl) ?_
          refine rg_no rfl (by kernel_rfl) (by kernel_rfl) ?_
          refine rg_no rfl (by kernel_rfl) (by kernel_rfl) ?_
          refine rg_no rfl (by kernel_rfl) (by kernel_rfl) ?_
          refine rg_no rfl (by kernel_rfl) (by kernel_rfl) ?_
          refine rg_no rfl (by kernel_rfl) (by kernel_rfl) ?_
          refine rg_no rfl (by kernel_rfl) (by kernel_rfl) ?_
          refine rg_no rfl (by kernel_rfl) (by kernel_rfl) ?_
          refine rg_no rfl (by kernel_rfl) (by kernel_rfl) ?_
          refine rg_no rfl (by kernel_rfl) (by kernel_rfl) ?_
          refine rg_no rfl (by kernel_rfl) (by kernel_rfl) ?_
          refine rg_no rfl (by kernel_rfl) (by kernel_rfl) ?_
          refine rg_pure (v := ?_) rfl (by kernel_rfl) (by kernel_rfl) (fun w hS hN => ?_) ?_
          rotate_left 1
          · clear hN
            go_simp
            try simp only [ecn]
            refine givesP_mk ?_
            with_reducible rfl
          refine rg_pure (v := ?_) rfl (by kernel_rfl) (by kernel_rfl) (fun w hS hN => ?_) ?_
          rotate_left 1
          · clear hN
            go_simp
            try simp only [ecn]
            refine givesP_mk ?_
            with_reducible rfl
          refine rg_done rfl (Nat.le_of_ble_eq_true (by kernel_rfl)) ?_
          intro w8 hS hT
          have X8 := Lib.hid (XR.out.trans hS)
          clear hS hT
          go_simp
          go_wp2
          go_roundw
          case rel => exact ⟨0 + 1, by omega, by go_num, X8.out⟩
          case measure => simp [intOf]; omega
        | succ j =>
          obtain ⟨q, hq⟩ : ∃ q, r[j]? = some q := ⟨_, List.getElem?_eq_getElem (by omega)⟩
          have hne := Sp.chain_get HGD.out.2 j q _ hq HSK.out
          obtain ⟨qf, ql, qs, qn, qw⟩ := q
          obtain ⟨b', o', hB', _, hc'⟩ := (HRU.out.ext XR.out).get hq
          simp only [Option.some.injEq, Addr.mk.injEq, and_true] at hB'
          obtain ⟨rfl, rfl⟩ := hB'
          have HCP : Hid (∀ v, Ext wr v → v.cell? ⟨b, o + j * 5 + 3, none⟩ = some (.int .i64 qn)) := Lib.hid fun v hv => (Below.cell (p := ⟨b, o + j * 5 + 3, none⟩) hv HBB.out).trans (hc' 3 _ rfl)
          have f1 : ((j + 1 : Nat) : Int) - 1 = (j : Int) := by omega
          have f2 : (j : Int) < (r.length : Int) := by omega
          have f5 : IntKind.i64.wrap (j : Int) = (j : Int) := IntWalk.i64_in _ (by omega)
          have f6 : (0 ≤ (j : Int) ∧ (j : Int) < (r.length : Int)) = True := eq_true ⟨by omega, f2⟩
          have f3 : decide (0 < ((j + 1 : Nat) : Int)) = true := decide_eq_true (by omega)
          have f4 : (0 == qn) = false := by
            have : (0 : Int) ≠ qn := fun e => hne e.symm
            simpa using this
          clear hq hne hc'
          go_wp2_with fail
          refine region_rgx ([]) (wr) (by kernel_rfl) (by kernel_rfl) ?_ ?_ ?_
          · exact List.forall_mem_nil _
          · first | assumption | exact Ext.refl _
          refine rg_pure (v := ?_) rfl (by kernel_rfl) (by kernel_rfl) (fun w hS hN => ?_) ?_
          rotate_left 1
          · clear hN
            go_simp
            try simp only [f3, f4, f5, f6, if_true, Int.toNat_natCast, ecn]
            refine givesP_mk ?_
            with_reducible rfl
          refine rg_pure (v := ?_) rfl (by kernel_rfl) (by kernel_rfl) (fun w hS hN => ?_) ?_
          rotate_left 1
          · clear hN
            go_simp
            try simp only [f3, f4, f5, f6, if_true, Int.toNat_natCast, ecn]
            refine givesP_mk ?_
            with_reducible rfl
          refine rg_pure (v := ?_) rfl (by kernel_rfl) (by kernel_rfl) (fun w hS hN => ?_) ?_
          rotate_left 1
          · clear hN
            go_simp
            try simp only [f3, f4, f5, f6, if_true, Int.toNat_natCast, ecn]
            refine givesP_mk ?_
            with_reducible rfl
          refine rg_pure (v := ?_) rfl (by kernel_rfl) (by kernel_rfl) (fun w hS hN => ?_) ?_
          rotate_left 1
          · clear hN
            go_simp
            try simp only [f3, f4, f5, f6, if_true, Int.toNat_natCast, ecn]
            refine givesP_mk ?_
            with_reducible rfl
          refine rg_pure (v := ?_) rfl (by kernel_rfl) (by kernel_rfl) (fun w hS hN => ?_) ?_
          rotate_left 1
          · obtain ⟨k2, k3, k4⟩ := HCE.out w hS
            clear hN
            go_simp
            try simp only [f3, f4, f5, f6, if_true, Int.toNat_natCast, ecn]
            refine givesP_mk ?_
            with_reducible rfl
          refine rg_pure (v := ?_) rfl (by kernel_rfl) (by kernel_rfl) (fun w hS hN => ?_) ?_
          rotate_left 1
          · clear hN
            go_simp
            try simp only [f3, f4, f5, f6, if_true, Int.toNat_natCast, ecn]
            refine givesP_mk ?_
            with_reducible rfl
          refine rg_pure (v := ?_) rfl (by kernel_rfl) (by kernel_rfl) (fun w hS hN => ?_) ?_
          rotate_left 1
          · clear hN
            go_simp
            try simp only [f3, f4, f5, f6, if_true, Int.toNat_natCast, ecn]
            refine givesP_mk ?_
            with_reducible rfl
          refine rg_pure (v := ?_) rfl (by kernel_rfl) (by kernel_rfl) (fun w hS hN => ?_) ?_
          rotate_left 1
          · clear hN
            go_simp
            try simp only [f3, f4, f5, f6, if_true, Int.toNat_natCast, ecn]
            refine givesP_mk ?_
            with_reducible rfl
          refine rg_pure (v := ?_) rfl (by kernel_rfl) (by kernel_rfl) (fun w hS hN => ?_) ?_
          rotate_left 1
          · clear hN
            go_simp
            try simp only [f3, f4, f5, f6, if_true, Int.toNat_natCast, ecn]
            refine givesP_mk ?_
            with_reducible rfl
          refine rg_pure (v := ?_) rfl (by kernel_rfl) (by kernel_rfl) (fun w hS hN => ?_) ?_
          rotate_left 1
          · clear hN
            go_simp
            try simp only [f3, f4, f5, f6, if_true, Int.toNat_natCast, ecn]
            refine givesP_mk ?_
            with_reducible rfl
          refine rg_pure (v := ?_) rfl (by kernel_rfl) (by kernel_rfl) (fun w hS hN => ?_) ?_
          rotate_left 1
          · obtain ⟨k2, k3, k4⟩ := HCE.out w hS
            clear hN
            go_simp
            try simp only [f3, f4, f5, f6, if_true, Int.toNat_natCast, ecn]
            refine givesP_mk ?_
            with_reducible rfl
          refine rg_pure (v := ?_) rfl (by kernel_rfl) (by kernel_rfl) (fun w hS hN => ?_) ?_
          rotate_left 1
          · clear hN
            go_simp
            try simp only [f3, f4, f5, f6, if_true, Int.toNat_natCast, ecn]
            refine givesP_mk ?_
            with_reducible rfl
          refine rg_pure (v := ?_) rfl (by kernel_rfl) (by kernel_rfl) (fun w hS hN => ?_) ?_
          rotate_left 1
          · clear hN
            go_simp
            try simp only [f3, f4, f5, f6, if_true, Int.toNat_natCast, ecn]
            refine givesP_mk ?_
            with_reducible rfl
          refine rg_pure (v := ?_) rfl (by kernel_rfl) (by kernel_rfl) (fun w hS hN => ?_) ?_
          rotate_left 1
          · clear hN
            go_simp
            try simp only [f3, f4, f5, f6, if_true, Int.toNat_natCast, ecn]
            refine givesP_mk ?_
            with_reducible rfl
          refine rg_pure (v := ?_) rfl (by kernel_rfl) (by kernel_rfl) (fun w hS hN => ?_) ?_
          rotate_left 1
          · clear hN
            go_simp
            try simp only [f3, f4, f5, f6, if_true, Int.toNat_natCast, ecn]
            refine givesP_mk ?_
            with_reducible rfl
          refine rg_pure (v := ?_) rfl (by kernel_rfl) (by kernel_rfl) (fun w hS hN => ?_) ?_
          rotate_left 1
          · clear hN
            go_simp
            try simp only [f3, f4, f5, f6, if_true, Int.toNat_natCast, ecn]
            refine givesP_mk ?_
            with_reducible rfl
          refine rg_pure (v := ?_) rfl (by kernel_rfl) (by kernel_rfl) (fun w hS hN => ?_) ?_
          rotate_left 1
          · clear hN
            go_simp
            try simp only [f3, f4, f5, f6, if_true, Int.toNat_natCast, ecn]
            refine givesP_mk ?_
            with_reducible rfl
          refine rg_pure (v := ?_) rfl (by kernel_rfl) (by kernel_rfl) (fun w hS hN => ?_) ?_
          rotate_left 1
          · clear hN
            go_simp
            try simp only [f3, f4, f5, f6, if_true, Int.toNat_natCast, ecn]
            refine givesP_mk ?_
            with_reducible rfl
          refine rg_pure (v := ?_) rfl (by kernel_rfl) (by kernel_rfl) (fun w hS hN => ?_) ?_
          rotate_left 1
          · obtain ⟨k2, k3, k4⟩ := HCE.out w hS
            clear hN
            go_simp
            try simp only [f3, f4, f5, f6, if_true, Int.toNat_natCast, ecn]
            refine givesP_mk ?_
            with_reducible rfl
          refine rg_pure (v := ?_) rfl (by kernel_rfl) (by kernel_rfl) (fun w hS hN => ?_) ?_
          rotate_left 1
          · clear hN
            go_simp
            try simp only [f3, f4, f5, f6, if_true, Int.toNat_natCast, ecn]
            refine givesP_mk ?_
            with_reducible rfl
          refine rg_pure (v := ?_) rfl (by kernel_rfl) (by kernel_rfl) (fun w hS hN => ?_) ?_
          rotate_left 1
          · clear hN
            go_simp
            try simp only [f3, f4, f5, f6, if_true, Int.toNat_natCast, ecn]
            refine givesP_mk ?_
            with_reducible rfl
          refine rg_pure (v := ?_) rfl (by kernel_rfl) (by kernel_rfl) (fun w hS hN => ?_) ?_
          rotate_left 1
          · clear hN
            go_simp
            try simp only [f3, f4, f5, f6, if_true, Int.toNat_natCast, ecn]
            refine givesP_mk ?_
            with_reducible rfl
          refine rg_pure (v := ?_) rfl (by kernel_rfl) (by kernel_rfl) (fun w hS hN => ?_) ?_
          rotate_left 1
          · clear hN
            go_simp
            try simp only [f3, f4, f5, f6, if_true, Int.toNat_natCast, ecn]
            refine givesP_mk ?_
            with_reducible rfl
          refine rg_pure (v := ?_) rfl (by kernel_rfl) (by kernel_rfl) (fun w hS hN => ?_) ?_
          rotate_left 1
          · clear hN
            go_simp
            try simp only [f3, f4, f5, f6, if_true, Int.toNat_natCast, ecn]
            refine givesP_mk ?_
            with_reducible rfl
          refine rg_pure (v := ?_) rfl (by kernel_rfl) (by kernel_rfl) (fun w hS hN => ?_) ?_
          rotate_left 1
          · clear hN
            go_simp
            try simp only [f3, f4, f5, f6, if_true, Int.toNat_natCast, ecn]
            refine givesP_mk ?_
            with_reducible rfl
          refine rg_pure (v := ?_) rfl (by kernel_rfl) (by kernel_rfl) (fun w hS hN => ?_) ?_
          rotate_left 1
          · clear hN
            go_simp
            try simp only [f3, f4, f5, f6, if_true, Int.toNat_natCast, ecn]
            refine givesP_mk ?_
            with_reducible rfl
          refine rg_pure (v := ?_) rfl (by kernel_rfl) (by kernel_rfl) (fun w hS hN => ?_) ?_
          rotate_left 1
          · obtain ⟨k2, k3, k4⟩ := HCE.out w hS
            clear hN
            go_simp
            try simp only [f3, f4, f5, f6, if_true, Int.toNat_natCast, ecn]
            refine givesP_mk ?_
            with_reducible rfl
          refine rg_pure (v := ?_) rfl (by kernel_rfl) (by kernel_rfl) (fun w hS hN => ?_) ?_
          rotate_left 1
          · clear hN
            go_simp
            try simp only [f3, f4, f5, f6, if_true, Int.toNat_natCast, ecn]
            refine givesP_mk ?_
            with_reducible rfl
          refine rg_pure (v := ?_) rfl (by kernel_rfl) (by kernel_rfl) (fun w hS hN => ?_) ?_
          rotate_left 1
          · clear hN
            go_simp
            try simp only [f3, f4, f5, f6, if_true, Int.toNat_natCast, ecn]
            refine givesP_mk ?_
            with_reducible rfl
          refine rg_pure (v := ?_) rfl (by kernel_rfl) (by kernel_rfl) (fun w hS hN => ?_) ?_
          rotate_left 1
          · clear hN
            go_simp
            try simp only [f3, f4, f5, f6, if_true, Int.toNat_natCast, ecn]
            refine givesP_mk ?_
            with_reducible rfl
          refine rg_pure (v := ?_) rfl (by kernel_rfl) (by kernel_rfl) (fun w hS hN => ?_) ?_
          rotate_left 1
          · clear hN
            go_simp
            try simp only [f3, f4, f5, f6, if_true, Int.toNat_natCast, ecn]
            refine givesP_mk ?_
            with_reducible rfl
          refine rg_pure (v := ?_) rfl (by kernel_rfl) (by kernel_rfl) (fun w hS hN => ?_) ?_
          rotate_left 1
          · clear hN
            go_simp
            try simp only [f3, f4, f5, f6, if_true, Int.toNat_natCast, ecn]
            refine givesP_mk ?_
            with_reducible rfl
          refine rg_pure (v := ?_) rfl (by kernel_rfl) (by kernel_rfl) (fun w hS hN => ?_) ?_
          rotate_left 1
          · clear hN
            go_simp
            try simp only [f3, f4, f5, f6, if_true, Int.toNat_natCast, ecn]
            refine givesP_mk ?_
            with_reducible rfl
          refine rg_pure (v := ?_) rfl (by kernel_rfl) (by kernel_rfl) (fun w hS hN => ?_) ?_
          rotate_left 1
          · clear hN
            go_simp
            try simp only [f3, f4, f5, f6, if_true, Int.toNat_natCast, ecn]
            refine givesP_mk ?_
            with_reducible rfl
          refine rg_pure (v := ?_) rfl (by kernel_rfl) (by kernel_rfl) (fun w hS hN => ?_) ?_
          rotate_left 1
          · obtain ⟨k2, k3, k4⟩ := HCE.out w hS
            clear hN
            go_simp
            try simp only [f3, f4, f5, f6, if_true, Int.toNat_natCast, ecn]
            refine givesP_mk ?_
            with_reducible rfl
          refine rg_pure (v := ?_) rfl (by kernel_rfl) (by kernel_rfl) (fun w hS hN => ?_) ?_
          rotate_left 1
          · clear hN
            go_simp
            try simp only [f3, f4, f5, f6, if_true, Int.toNat_natCast, ecn]
            refine givesP_mk ?_
            with_reducible rfl
          refine rg_pure (v := ?_) rfl (by kernel_rfl) (by kernel_rfl) (fun w hS hN => ?_) ?_
          rotate_left 1
          · clear hN
            go_simp
            try simp only [f3, f4, f5, f6, if_true, Int.toNat_natCast, ecn]
            refine givesP_mk ?_
            with_reducible rfl
          refine rg_pure (v := ?_) rfl (by kernel_rfl) (by kernel_rfl) (fun w hS hN => ?_) ?_
          rotate_left 1
          · clear hN
            go_simp
            try simp only [f3, f4, f5, f6, if_true, Int.toNat_natCast, ecn]
            refine givesP_mk ?_
            with_reducible rfl
          refine rg_pure (v := ?_) rfl (by kernel_rfl) (by kernel_rfl) (fun w hS hN => ?_) ?_
          rotate_left 1
          · clear hN
            go_simp
            try simp only [f3, f4, f5, f6, if_true, Int.toNat_natCast, ecn]
            refine givesP_mk ?_
            with_reducible rfl
          refine rg_pure (v := ?_) rfl (by kernel_rfl) (by kernel_rfl) (fun w hS hN => ?_) ?_
          rotate_left 1
          · clear hN
            go_simp
            try simp only [f3, f4, f5, f6, if_true, Int.toNat_natCast, ecn]
            refine givesP_mk ?_
            with_reducible rfl
          refine rg_pure (v := ?_) rfl (by kernel_rfl) (by kernel_rfl) (fun w hS hN => ?_) ?_
          rotate_left 1
          · clear hN
            go_simp
            try simp only [f3, f4, f5, f6, if_true, Int.toNat_natCast, ecn]
            refine givesP_mk ?_
            with_reducible rfl
          refine rg_pure (v := ?_) rfl (by kernel_rfl) (by kernel_rfl) (fun w hS hN => ?_) ?_
          rotate_left 1
          · clear hN
            go_simp
            try simp only [f3, f4, f5, f6, if_true, Int.toNat_natCast, ecn]
            refine givesP_mk ?_
            with_reducible rfl
          refine rg_pure (v := ?_) rfl (by kernel_rfl) (by kernel_rfl) (fun w hS hN => ?_) ?_
          rotate_left 1
          · clear hN
            go_simp
            try simp only [f3, f4, f5, f6, if_true, Int.toNat_natCast, ecn]
            refine givesP_mk ?_
            with_reducible rfl
          refine rg_pure (v := ?_) rfl (by kernel_rfl) (by kernel_rfl) (fun w hS hN => ?_) ?_
          rotate_left 1
          · clear hN
            go_simp
            try simp only [f3, f4, f5, f6, if_true, Int.toNat_natCast, ecn]
            refine givesP_mk ?_
            with_reducible rfl
          refine rg_pure (v := ?_) rfl (by kernel_rfl) (by kernel_rfl) (fun w hS hN => ?_) ?_
          rotate_left 1
          · clear hN
            go_simp
            try simp only [f3, f4, f5, f6, if_true, Int.toNat_natCast, ecn]
            refine givesP_mk ?_
            with_reducible rfl
          refine rg_pure (v := ?_) rfl (by kernel_rfl) (by kernel_rfl) (fun w hS hN => ?_) ?_
          rotate_left 1
          · obtain ⟨k2, k3, k4⟩ := HCE.out w hS
            clear hN
            go_simp
            try simp only [f3, f4, f5, f6, if_true, Int.toNat_natCast, ecn]
            refine givesP_mk ?_
            with_reducible rfl
          refine rg_pure (v := ?_) rfl (by kernel_rfl) (by kernel_rfl) (fun w hS hN => ?_) ?_
          rotate_left 1
          · clear hN
            go_simp
            try simp only [f3, f4, f5, f6, if_true, Int.toNat_natCast, ecn]
            refine givesP_mk ?_
            with_reducible rfl
          refine rg_pure (v := ?_) rfl (by kernel_rfl) (by kernel_rfl) (fun w hS hN => ?_) ?_
          rotate_left 1
          · clear hN
            go_simp
            try simp only [f3, f4, f5, f6, if_true, Int.toNat_natCast, ecn]
            refine givesP_mk ?_
            with_reducible rfl
          refine rg_pure (v := ?_) rfl (by kernel_rfl) (by kernel_rfl) (fun w hS hN => ?_) ?_
          rotate_left 1
          · clear hN
            go_simp
            try simp only [f3, f4, f5, f6, if_true, Int.toNat_natCast, ecn]
            refine givesP_mk ?_
            with_reducible rfl
          refine rg_pure (v := ?_) rfl (by kernel_rfl) (by kernel_rfl) (fun w hS hN => ?_) ?_
          rotate_left 1
          · clear hN
            go_simp
            try simp only [f3, f4, f5, f6, if_true, Int.toNat_natCast, ecn]
            refine givesP_mk ?_
            with_reducible rfl
          refine rg_pure (v := ?_) rfl (by kernel_rfl) (by kernel_rfl) (fun w hS hN => ?_) ?_
          rotate_left 1
          · clear hN
            go_simp
            try simp only [f3, f4, f5, f6, if_true, Int.toNat_natCast, ecn]
            refine givesP_mk ?_
            with_reducible rfl
          refine rg_pure (v := ?_) rfl (by kernel_rfl) (by kernel_rfl) (fun w hS hN => ?_) ?_
          rotate_left 1
          · have kp := HCP.out w hS
            clear hN
            go_simp
            try simp only [f3, f4, f5, f6, if_true, Int.toNat_natCast, ecn]
            refine givesP_mk ?_
            with_reducible rfl
          refine rg_pure (v := ?_) rfl (by kernel_rfl) (by kernel_rfl) (fun w hS hN => ?_) ?_
          rotate_left 1
          · clear hN
            go_simp
            try simp only [f3, f4, f5, f6, if_true, Int.toNat_natCast, ecn]
            refine givesP_mk ?_
            with_reducible rfl
          refine rg_pure (v := ?_) rfl (by kernel_rfl) (by kernel_rfl) (fun w hS hN => ?_) ?_
          rotate_left 1
          · clear hN
            go_simp
            try simp only [f3, f4, f5, f6, if_true, Int.toNat_natCast, ecn]
            refine givesP_mk ?_
            with_reducible rfl
          refine rg_pure (v := ?_) rfl (by kernel_rfl) (by kernel_rfl) (fun w hS hN => ?_) ?_
          rotate_left 1
          · clear hN
            go_simp
            try simp only [f3, f4, f5, f6, if_true, Int.toNat_natCast, ecn]
            refine givesP_mk ?_
            with_reducible rfl
          refine rg_done rfl (Nat.le_of_ble_eq_true (by kernel_rfl)) ?_
          intro w8 hS hT
          have X8 := Lib.hid (XR.out.trans hS)
          clear hS hT
          go_simp
          go_wp2
          go_roundw
          case rel => exact ⟨(j + 1) + 1, by omega, by go_num, X8.out⟩
          case measure => simp [intOf]; omega
    · obtain rfl : k = r.length := by omega
      go_wp2
      go_ret
      exact ⟨rfl, HX1.out.trans (X4.out.trans XR.out)⟩
end Go.Proofs.YtohncgikdlbogaaDoor
