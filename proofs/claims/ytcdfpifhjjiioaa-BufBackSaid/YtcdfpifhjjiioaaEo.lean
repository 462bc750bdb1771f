/-
  The contract of layer 4's own helper 'fixed': it returns true.
-/
import Derived.Test.YtcdfpifhjjiioaaEn
set_option linter.unusedVariables false
set_option linter.unusedSimpArgs false
namespace Go.Proofs.Ytcdfpifhjjiioaa
open Go.RowKit

theorem Ev.enc_of_dec {L : List UInt8} {e : Ev} (h : Ev.dec L = (e, L.length, 0)) : e.may = true ∧ e.enc = ⟨L.toArray⟩ := by
  obtain ⟨h1, _, h2, r, h3⟩ := Ev.dec_ok h
  refine ⟨h1, ?_⟩
  unfold Ev.enc
  rw [if_pos h1]
  have : r = [] := by
    have := congrArg List.length h3
    rw [List.length_append] at this
    exact List.eq_nil_of_length_eq_zero (by omega)
  rw [this, List.append_nil] at h3
  rw [h3]
/-- What a call of Decode answers, part by part. -/
def DecK (k d : Int) (xs : List Int) (t : ByteArray) (p q : Int) (w : World) (r : Ending) (w' : World) : Prop :=
  ∃ A c, r = .returned (.tuple #[.agg #[.int .i64 k, .int .i64 d, .slice A xs.length c, .string t], .int .i64 p, .int .i64 q]) ∧ IntsAt w' (.slice A xs.length c) xs ∧ Ext w w'
theorem encode_k (k d : Int) (xs : List Int) (t b : ByteArray) (h : Ev.enc ⟨k, d, xs, t⟩ = b) (A : Option Addr) (c : Nat) (w : World) (hI : IntsAt w (.slice A xs.length c) xs) (hn : xs.length ≤ 9223372036854775807) (ht : t.size ≤ 140737488351232) :
    Calls Try.prog 19 #[.agg #[.int .i64 k, .int .i64 d, .slice A xs.length c, .string t]] w fun r w' => r = .returned (.string b) ∧ Ext w w' := by
  subst h; exact enc_e _ ⟨k, d, xs, t⟩ w ⟨A, c, rfl, hI⟩ hn ht
theorem may_k (k d : Int) (xs : List Int) (t : ByteArray) (b : Bool) (h : Ev.may ⟨k, d, xs, t⟩ = b) (A : Option Addr) (c : Nat) (w : World) (hI : IntsAt w (.slice A xs.length c) xs) (hn : xs.length ≤ 9223372036854775807) :
    Calls Try.prog 18 #[.agg #[.int .i64 k, .int .i64 d, .slice A xs.length c, .string t]] w fun r w' => r = .returned (.bool b) ∧ Ext w w' := by
  subst h; exact may_e _ ⟨k, d, xs, t⟩ w ⟨A, c, rfl, hI⟩ hn
theorem same_k (k d : Int) (xs : List Int) (t : ByteArray) (k' d' : Int) (xs' : List Int) (t' : ByteArray) (r : Bool) (hr : Ev.sameB ⟨k, d, xs, t⟩ ⟨k', d', xs', t'⟩ = r) (A : Option Addr) (c : Nat) (A' : Option Addr) (c' : Nat) (w : World) (hI : IntsAt w (.slice A xs.length c) xs) (hI' : IntsAt w (.slice A' xs'.length c') xs') (hn : xs.length ≤ 9223372036854775807) :
    Calls Try.prog 17 #[.agg #[.int .i64 k, .int .i64 d, .slice A xs.length c, .string t], .agg #[.int .i64 k', .int .i64 d', .slice A' xs'.length c', .string t']] w fun e w' => e = .returned (.bool r) ∧ Ext w w' :=
  same_eq _ _ ⟨k, d, xs, t⟩ ⟨k', d', xs', t'⟩ r hr w ⟨A, c, rfl, hI⟩ ⟨A', c', rfl, hI'⟩ hn
theorem ints_nil (w : World) : IntsAt w (.slice none 0 0) [] := ⟨none, 0, rfl, fun h => by simp at h⟩
theorem Ev.F1 : Ev.enc ⟨4, 300, [7, 2], ⟨#[]⟩⟩ = ⟨#[4, 172, 2, 7, 2]⟩ := (Ev.enc_of_dec (L := [4, 172, 2, 7, 2]) (by kernel_rfl)).2
theorem Ev.F2 : Ev.enc ⟨130, 0, [], ⟨#[97]⟩⟩ = ⟨#[130, 0, 1, 97]⟩ := (Ev.enc_of_dec (L := [130, 0, 1, 97]) (by kernel_rfl)).2
theorem Ev.F3 : Ev.may ⟨4, 300, [7, 2], ⟨#[]⟩⟩ = true := by kernel_rfl
theorem Ev.F4 : Ev.may ⟨4, 0, [], ⟨#[]⟩⟩ = false := by kernel_rfl
theorem Ev.F5 : Ev.decP (⟨#[120]⟩ ++ ⟨#[4, 172, 2, 7, 2]⟩) 1 = (⟨4, 300, [7, 2], ⟨#[]⟩⟩, 6, 0) := by kernel_rfl
theorem Ev.F6 : Ev.decP ⟨#[11, 0]⟩ 0 = (⟨0, 0, [], ⟨#[]⟩⟩, 0, 30) := by kernel_rfl
theorem Ev.F7 : Ev.decP ⟨#[4, 172]⟩ 0 = (⟨0, 0, [], ⟨#[]⟩⟩, 0, 10) := by kernel_rfl
theorem Ev.F8 : Ev.sameB ⟨4, 300, [7, 2], ⟨#[]⟩⟩ ⟨4, 300, [7, 2], ⟨#[]⟩⟩ = true := (Ev.sameB_iff _ _).2 rfl
end Go.Proofs.Ytcdfpifhjjiioaa
