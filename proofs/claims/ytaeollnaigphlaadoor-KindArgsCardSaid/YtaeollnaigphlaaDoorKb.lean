/-
  The names of kinds: as plain mathematics; contracts of the program's Name and of the document's.
-/
import Derived.Test.YtaeollnaigphlaaDoorKa
import Derived.Test.YtaeollnaigphlaaDoorSh
import Derived.Test.YtaeollnaigphlaaDoorGd
import Derived.Sort.Grow
set_option linter.unusedVariables false
set_option linter.unusedSimpArgs false
namespace Go.Proofs.YtaeollnaigphlaaDoor
open Go.RowKit

/-- The table that the library's writing of numbers reads. -/
def Tab (w : World) : Prop := Lib.TabIs Tryd.prog w "internal/strconv.uint64pow10" .u64 Lib.pow10Tab
theorem Tab.ext {w w' : World} (h : Tab w) (hx : Ext w w') : Tab w' := by
  unfold Tab Lib.TabIs World.var? at *
  cases hg : Tryd.prog.globalNamed "internal/strconv.uint64pow10" with
  | none => rw [hg] at h; cases h
  | some g =>
    rw [hg] at h
    simp only [Option.bind_some] at h ⊢
    have hlt : g < w.heap.size := by
      rcases Nat.lt_or_ge g w.heap.size with h' | h'
      · exact h'
      · rw [Array.getElem?_eq_none h'] at h; cases h
    rw [hx.block g hlt]
    exact h
theorem grow_ext (w : World) (k : Nat) (os : Array Obj) : Ext w (Go.Sort.grow (w.drewN k) os) :=
  ⟨rfl, rfl, rfl, by simp [Go.Sort.grow], fun i hi => by
    show (w.heap ++ os)[i]? = w.heap[i]?
    rw [Array.getElem?_append_left hi]⟩
theorem itoa_x (n : Int) (w : World) (ht : Tab w) (h0 : -9223372036854775808 ≤ n) (h1 : n ≤ 9223372036854775807) : Calls Tryd.prog 23 #[.int .i64 n] w fun e w' => e = .returned (.string ⟨(Lib.itoa n).toArray⟩) ∧ Ext w w' :=
  (Tryd.strconv_Itoa n h0 h1 w ht).mono fun e w' ⟨he, k, os, hw⟩ => ⟨he, by rw [hw]; exact grow_ext w k os⟩
def Ki.names : List (List UInt8) := [[], [112, 114, 111, 99, 115, 116, 97, 114, 116], [112, 114, 111, 99, 115, 116, 111, 112], [99, 114, 101, 97, 116, 101], [115, 116, 97, 114, 116], [115, 116, 111, 112], [98, 108, 111, 99, 107], [117, 110, 98, 108, 111, 99, 107], [101, 120, 105, 116], [115, 121, 115, 101, 110, 116, 101, 114], [115, 121, 115, 101, 120, 105, 116]]
def Ki.nameL (k : Int) : List UInt8 := if Ki.known k = true then Ki.names.getD k.toNat [] else if Ki.exp k = true then [101, 120, 112] ++ Lib.itoa k else []
def Ki.name (k : Int) : ByteArray := ⟨(Ki.nameL k).toArray⟩
theorem Ki.name_exp {k : Int} (h : Ki.exp k = true) : (⟨#[101, 120, 112]⟩ : ByteArray) ++ ⟨(Lib.itoa k).toArray⟩ = Ki.name k := by
  have hk : ¬ Ki.known k = true := fun hk => by rw [Ki.known_exp hk] at h; cases h
  unfold Ki.name Ki.nameL
  rw [if_neg hk, if_pos h]
  exact ByteArray.ext (by simp)
theorem Ki.itoa_len {k : Int} (h : 128 ≤ k ∧ k ≤ 255) : (Lib.itoa k).length ≤ 3 := by
  unfold Lib.itoa
  rw [if_neg (by omega)]
  have h1 : k.toNat < 1000 := by omega
  generalize k.toNat = u at *
  unfold Lib.decDigits
  split
  · simp
  · rw [List.length_append]
    unfold Lib.decDigits
    split
    · simp
    · rw [List.length_append]
      unfold Lib.decDigits
      rw [dif_pos (by omega)]
      simp
theorem Ki.name_none {k : Int} (h : Ki.exp k = false) (hk : Ki.known k = false) : Ki.name k = ⟨#[]⟩ := by
  unfold Ki.name Ki.nameL
  rw [hk, h]
  rfl
set_option maxRecDepth 100000 in
set_option maxHeartbeats 1000000 in
theorem kname_any (k : Int) (w : World) (ht : Tab w) : Calls Tryd.prog 8 #[.int .i64 k] w fun e w' => e = .returned (.string (Ki.name k)) ∧ Ext w w' := by
  have HT := Lib.hid ht
  clear ht
  cases hx : Ki.exp k with
  | true =>
    have HX := Lib.hid hx
    have hb : 128 ≤ k ∧ k ≤ 255 := by unfold Ki.exp at hx; exact of_decide_eq_true hx
    have HN := Lib.hid (Ki.name_exp hx)
    have hlen := Ki.itoa_len hb
    have HT0 := Lib.hid (rfl : (⟨(Lib.itoa k).toArray⟩ : ByteArray) = _)
    obtain ⟨t, htt⟩ : ∃ t : ByteArray, (⟨(Lib.itoa k).toArray⟩ : ByteArray) = t := ⟨_, rfl⟩
    have hts : t.size ≤ 3 := by rw [← htt]; simpa [ByteArray.size] using hlen
    have HTT := Lib.hid htt
    rw [← HN.out, htt]
    clear hx htt HT0 hlen
    go_enter Tryd.func8, Tryd.ntmps8
    go_wp2_with fail
    have he := exp_any k w
    rw [HX.out] at he
    refine he.mono ?_
    rintro e w' ⟨rfl, rfl⟩
    go_wp2_with fail
    refine (itoa_x k _ HT.out (by omega) (by omega)).mono ?_
    rintro e w2 ⟨he2, hx2⟩
    rw [HTT.out] at he2
    subst he2
    go_wp2
    go_ret
    exact ⟨rfl, hx2⟩
  | false =>
    have HX := Lib.hid hx
    have HE : Hid (Calls Tryd.prog 15 #[.int .i64 k] w fun e w' => e = .returned (.bool false) ∧ w = w') := Lib.hid (by have := exp_any k w; rwa [hx] at this)
    cases hk : Ki.known k with
    | false =>
      rw [Ki.name_none hx hk]
      have hb : ¬ (1 ≤ k ∧ k ≤ 10) := by unfold Ki.known at hk; exact of_decide_eq_false hk
      have e1 : (k == 1) = false := by simp; omega
      have e2 : (k == 2) = false := by simp; omega
      have e3 : (k == 3) = false := by simp; omega
      have e4 : (k == 4) = false := by simp; omega
      have e5 : (k == 5) = false := by simp; omega
      have e6 : (k == 6) = false := by simp; omega
      have e7 : (k == 7) = false := by simp; omega
      have e8 : (k == 8) = false := by simp; omega
      have e9 : (k == 9) = false := by simp; omega
      have e10 : (k == 10) = false := by simp; omega
      clear hx hk hb
      go_enter Tryd.func8, Tryd.ntmps8
      go_wp2_with fail
      refine HE.out.mono ?_
      rintro e w' ⟨rfl, rfl⟩
      go_wp2
      go_ret
      exact ⟨rfl, Ext.refl _⟩
    | true =>
      have hb : 1 ≤ k ∧ k ≤ 10 := by unfold Ki.known at hk; exact of_decide_eq_true hk
      have hc : k = 1 ∨ k = 2 ∨ k = 3 ∨ k = 4 ∨ k = 5 ∨ k = 6 ∨ k = 7 ∨ k = 8 ∨ k = 9 ∨ k = 10 := by omega
      clear hx hk hb HX
      rcases hc with rfl | rfl | rfl | rfl | rfl | rfl | rfl | rfl | rfl | rfl
      · skip
        go_enter Tryd.func8, Tryd.ntmps8
        go_wp2_with fail
        refine HE.out.mono ?_
        rintro e w' ⟨rfl, rfl⟩
        go_wp2
        go_ret
        exact ⟨rfl, Ext.refl _⟩
      · skip
        go_enter Tryd.func8, Tryd.ntmps8
        go_wp2_with fail
        refine HE.out.mono ?_
        rintro e w' ⟨rfl, rfl⟩
        go_wp2
        go_ret
        exact ⟨rfl, Ext.refl _⟩
      · skip
        go_enter Tryd.func8, Tryd.ntmps8
        go_wp2_with fail
        refine HE.out.mono ?_
        rintro e w' ⟨rfl, rfl⟩
        go_wp2
        go_ret
        exact ⟨rfl, Ext.refl _⟩
      · skip
        go_enter Tryd.func8, Tryd.ntmps8
        go_wp2_with fail
        refine HE.out.mono ?_
        rintro e w' ⟨rfl, rfl⟩
        go_wp2
        go_ret
        exact ⟨rfl, Ext.refl _⟩
      · skip
        go_enter Tryd.func8, Tryd.ntmps8
        go_wp2_with fail
        refine HE.out.mono ?_
        rintro e w' ⟨rfl, rfl⟩
        go_wp2
        go_ret
        exact ⟨rfl, Ext.refl _⟩
      · skip
        go_enter Tryd.func8, Tryd.ntmps8
        go_wp2_with fail
        refine HE.out.mono ?_
        rintro e w' ⟨rfl, rfl⟩
        go_wp2
        go_ret
        exact ⟨rfl, Ext.refl _⟩
      · skip
        go_enter Tryd.func8, Tryd.ntmps8
        go_wp2_with fail
        refine HE.out.mono ?_
        rintro e w' ⟨rfl, rfl⟩
        go_wp2
        go_ret
        exact ⟨rfl, Ext.refl _⟩
      · skip
        go_enter Tryd.func8, Tryd.ntmps8
        go_wp2_with fail
        refine HE.out.mono ?_
        rintro e w' ⟨rfl, rfl⟩
        go_wp2
        go_ret
        exact ⟨rfl, Ext.refl _⟩
      · skip
        go_enter Tryd.func8, Tryd.ntmps8
        go_wp2_with fail
        refine HE.out.mono ?_
        rintro e w' ⟨rfl, rfl⟩
        go_wp2
        go_ret
        exact ⟨rfl, Ext.refl _⟩
      · skip
        go_enter Tryd.func8, Tryd.ntmps8
        go_wp2_with fail
        refine HE.out.mono ?_
        rintro e w' ⟨rfl, rfl⟩
        go_wp2
        go_ret
        exact ⟨rfl, Ext.refl _⟩
end Go.Proofs.YtaeollnaigphlaaDoor
