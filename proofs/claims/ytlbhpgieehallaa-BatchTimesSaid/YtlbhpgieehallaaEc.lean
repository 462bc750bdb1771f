/-
  The contract of event.Encode, and of the builder's WriteByte.
-/
import Derived.Test.YtlbhpgieehallaaEb
set_option linter.unusedVariables false
set_option linter.unusedSimpArgs false
namespace Go.Proofs.Ytlbhpgieehallaa
open Go.RowKit

theorem Ev.kind_le {e : Ev} (h : e.may = true) : 0 ≤ e.kind ∧ e.kind ≤ 255 := by
  rcases Ev.may_kind h with h | h
  · unfold Ki.known at h; have := of_decide_eq_true h; omega
  · unfold Ki.exp at h; have := of_decide_eq_true h; omega
theorem Ev.enc_exp {k d : Int} {t : ByteArray} (hm : Ev.may ⟨k, d, [], t⟩ = true) (hx : Ki.exp k = true) : (⟨(([UInt8.ofNat k.toNat] ++ (Va.puts d.toNat).data.toList) ++ (Va.puts t.size ++ t).data.toList).toArray⟩ : ByteArray) = Ev.enc ⟨k, d, [], t⟩ := by
  unfold Ev.enc; rw [if_pos hm]
  unfold Ev.encL Ev.tailL
  simp only
  rw [if_pos hx, ByteArray.data_append, Array.toList_append, Va.puts_list, Va.puts_list]
  simp
theorem Ev.enc_known {k d : Int} {xs : List Int} {t : ByteArray} (hm : Ev.may ⟨k, d, xs, t⟩ = true) (hx : Ki.exp k = false) : (⟨(([UInt8.ofNat k.toNat] ++ (Va.puts d.toNat).data.toList) ++ Wi.cat xs).toArray⟩ : ByteArray) = Ev.enc ⟨k, d, xs, t⟩ := by
  unfold Ev.enc; rw [if_pos hm]
  unfold Ev.encL Ev.tailL
  simp only
  rw [if_neg (by rw [hx]; simp), Va.puts_list]
  simp
end Go.Proofs.Ytlbhpgieehallaa
