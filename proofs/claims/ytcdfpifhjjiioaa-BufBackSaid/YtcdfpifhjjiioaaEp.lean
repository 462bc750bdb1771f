/-
  The walk of the statement EventExp: for every two numbers and every text it returns true.
-/
import Derived.Test.YtcdfpifhjjiioaaEo
import Derived.Test.YtcdfpifhjjiioaaLp
set_option linter.unusedVariables false
set_option linter.unusedSimpArgs false
namespace Go.Proofs.Ytcdfpifhjjiioaa
open Go.RowKit

theorem Ev.dec_at {e : Ev} (h : e.may = true) (ht : e.text.size < Va.most) (s : ByteArray) (a : Nat) (r : List UInt8) (hs : s.data.toList.drop a = e.encL ++ r) (ha : a ≤ s.size) : Ev.decP s a = (e, ((a + e.encL.length : Nat) : Int), 0) := by
  rw [Ev.decP_nat s a ha, hs, Ev.dec_enc h ht r]
  simp
theorem Ev.enc_data {e : Ev} (h : e.may = true) : e.enc.data.toList = e.encL := by unfold Ev.enc; rw [if_pos h]
theorem Ev.enc_size {e : Ev} (h : e.may = true) : e.enc.size = e.encL.length := by
  have : e.enc.size = e.enc.data.toList.length := by simp
  rw [this, Ev.enc_data h]
theorem Ev.encL_le {e : Ev} (h : e.may = true) (ht : e.text.size < Va.most) : e.encL.length ≤ 19 + e.text.size + 9 * e.args.length := by
  have hd := Ev.ok_wi.1 (Ev.may_dt h)
  have h9 := Va.puts_nine hd.1 hd.2
  rw [Va.puts_size] at h9
  have h8 := Va.put_len_most ht
  unfold Ev.encL
  rw [List.length_cons, List.length_append]
  have : e.tailL.length ≤ 9 + e.text.size + 9 * e.args.length := by
    unfold Ev.tailL
    by_cases hx : Ki.exp e.kind = true
    · rw [if_pos hx, List.length_append]; simp at *; omega
    · rw [if_neg hx]
      have := Wi.cat_len e.args (fun x hx' => Ev.ok_wi.1 ((Ev.may_no h hx).2.2.1 x hx'))
      omega
  omega
theorem Ev.exp_may {k dt : Int} {s : ByteArray} (h0 : 128 ≤ k) (h1 : k ≤ 255) (h2 : 0 ≤ dt) (h3 : dt < 4611686018427387904) : Ev.may ⟨k, dt, [], s⟩ = true := by
  unfold Ev.may
  rw [if_pos (show Ki.exp k = true by unfold Ki.exp; exact decide_eq_true ⟨h0, h1⟩), show Ev.ok dt = true by unfold Ev.ok; exact decide_eq_true ⟨h2, h3⟩]
  rfl
theorem Ev.F9 : Ev.enc ⟨8, 0, [], ⟨#[]⟩⟩ = ⟨#[8, 0]⟩ := (Ev.enc_of_dec (L := [8, 0]) (by kernel_rfl)).2
theorem Ev.F10 : Ev.may ⟨8, 0, [], ⟨#[]⟩⟩ = true ∧ Ev.encL ⟨8, 0, [], ⟨#[]⟩⟩ = [8, 0] := by
  have h := Ev.enc_of_dec (L := [8, 0]) (e := ⟨8, 0, [], ⟨#[]⟩⟩) (by kernel_rfl)
  refine ⟨h.1, ?_⟩
  rw [← Ev.enc_data h.1, h.2]

end Go.Proofs.Ytcdfpifhjjiioaa
