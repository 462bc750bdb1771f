/-
  The contract of the document's Bytes, of events; layer 5's own helper 'fixed': it returns true.
-/
import Derived.Test.YtcdfpifhjjiioaaBe
import Derived.Test.YtcdfpifhjjiioaaEr
set_option linter.unusedVariables false
set_option linter.unusedSimpArgs false
namespace Go.Proofs.Ytcdfpifhjjiioaa
open Go.RowKit

def Ev.encs (l : List Ev) : ByteArray := ⟨((l.map fun e => e.enc.data.toList).flatten).toArray⟩
theorem Ev.encs_snoc (l : List Ev) (e : Ev) : Ev.encs l ++ e.enc = Ev.encs (l ++ [e]) := by
  apply ByteArray.ext
  apply Array.toList_inj.1
  rw [ByteArray.data_append, Array.toList_append]
  simp [Ev.encs]
theorem Ev.enc_le {e : Ev} (h1 : e.args.length ≤ 1000) (h2 : e.text.size ≤ 1000000) : e.enc.size ≤ 1100000 := by
  cases hm : e.may with
  | false => unfold Ev.enc; rw [hm]; exact Nat.zero_le _
  | true =>
    rw [Ev.enc_size hm]
    have := Ev.encL_le hm (by unfold Va.most; omega)
    omega
theorem Ev.encs_size (l : List Ev) (h : ∀ e ∈ l, e.args.length ≤ 1000 ∧ e.text.size ≤ 1000000) : (Ev.encs l).size ≤ 1100000 * l.length := by
  induction l with
  | nil => exact Nat.zero_le _
  | cons e l ih =>
    have h1 := ih fun x hx => h x (by simp [hx])
    obtain ⟨a1, a2⟩ := h e (by simp)
    have h2 := Ev.enc_le a1 a2
    have e1 : (Ev.encs (e :: l)).size = e.enc.size + (Ev.encs l).size := by
      have k1 : (Ev.encs l).size = ((l.map fun e => e.enc.data.toList).flatten).length := size_mk _
      have k2 : (Ev.encs (e :: l)).size = (((e :: l).map fun e => e.enc.data.toList).flatten).length := size_mk _
      rw [k1, k2]
      simp
    rw [e1, List.length_cons]
    omega
theorem renc_eq' (k d : Int) (xs : List Int) (t b : ByteArray) (h : Ev.enc ⟨k, d, xs, t⟩ = b) (A : Option Addr) (c : Nat) (w : World) (hI : IntsAt w (.slice A xs.length c) xs) (hn : xs.length ≤ 1000) (ht : t.size ≤ 1000000) :
    Calls Try.prog 22 #[.agg #[.int .i64 k, .int .i64 d, .slice A xs.length c, .string t]] w fun r w' => r = .returned (.string b) ∧ Ext w w' := by
  subst h; exact renc_e _ ⟨k, d, xs, t⟩ w ⟨A, c, rfl, hI⟩ hn ht
theorem Bt.enc_of_dec {L : List UInt8} {b : Bt} (h : Bt.dec L = (b, L.length, 0)) : b.may = true ∧ b.enc = ⟨L.toArray⟩ := by
  obtain ⟨h1, h2, r, h3⟩ := Bt.dec_ok h
  refine ⟨h1, ?_⟩
  unfold Bt.enc
  rw [if_pos h1]
  have : r = [] := by
    have := congrArg List.length h3
    rw [List.length_append] at this
    exact List.eq_nil_of_length_eq_zero (by omega)
  rw [this, List.append_nil] at h3
  rw [h3]
theorem Bt.F1 : Ev.encs [⟨8, 5, [], ⟨#[]⟩⟩, ⟨8, 0, [], ⟨#[]⟩⟩] = ⟨#[8, 5, 8, 0]⟩ := by
  have h1 : Ev.enc ⟨8, 5, [], ⟨#[]⟩⟩ = ⟨#[8, 5]⟩ := (Ev.enc_of_dec (L := [8, 5]) (by kernel_rfl)).2
  have h2 : Ev.enc ⟨8, 0, [], ⟨#[]⟩⟩ = ⟨#[8, 0]⟩ := (Ev.enc_of_dec (L := [8, 0]) (by kernel_rfl)).2
  unfold Ev.encs
  simp [h1, h2]
theorem Bt.F2 : Bt.may ⟨1, 2, 100, ⟨#[8, 5, 8, 0]⟩⟩ = true ∧ Bt.enc ⟨1, 2, 100, ⟨#[8, 5, 8, 0]⟩⟩ = ⟨#[66, 1, 2, 100, 4, 8, 5, 8, 0]⟩ := Bt.enc_of_dec (L := [66, 1, 2, 100, 4, 8, 5, 8, 0]) (by kernel_rfl)
theorem Bt.F3 : Bt.decP (⟨#[120]⟩ ++ ⟨#[66, 1, 2, 100, 4, 8, 5, 8, 0]⟩) 1 = (⟨1, 2, 100, ⟨#[8, 5, 8, 0]⟩⟩, 10, 0) := by kernel_rfl
theorem Bt.F4 : Bt.events ⟨1, 2, 100, ⟨#[8, 5, 8, 0]⟩⟩ = ([⟨8, 5, [], ⟨#[]⟩⟩, ⟨8, 0, [], ⟨#[]⟩⟩], [105, 105], 0, 0) := by kernel_rfl
theorem Bt.F5 : Bt.decP ⟨#[120]⟩ 0 = (⟨0, 0, 0, ⟨#[]⟩⟩, 0, 50) := by kernel_rfl
theorem Bt.F6 : Bt.decP ⟨#[66, 0, 0, 0, 0]⟩ 0 = (⟨0, 0, 0, ⟨#[]⟩⟩, 0, 50) := by kernel_rfl
theorem Bt.F7 : Bt.may ⟨0, 0, 0, ⟨#[]⟩⟩ = false := by kernel_rfl
theorem evs_two0 (w : World) : EvsAt (w.alloc (.cells #[.int .i64 8, .int .i64 5, .slice none 0 0, .string ⟨#[]⟩, .int .i64 8, .int .i64 0, .slice none 0 0, .string ⟨#[]⟩] 28)) (.slice (some ⟨w.heap.size, 0, none⟩) 2 2) [⟨8, 5, [], ⟨#[]⟩⟩, ⟨8, 0, [], ⟨#[]⟩⟩] := by
  have hn := blk_new w (.cells #[.int .i64 8, .int .i64 5, .slice none 0 0, .string ⟨#[]⟩, .int .i64 8, .int .i64 0, .slice none 0 0, .string ⟨#[]⟩] 28)
  refine ⟨_, 2, rfl, fun _ => ⟨w.heap.size, 0, rfl, by simp, fun j e hj => ?_⟩⟩
  match j with
  | 0 => simp at hj; subst hj; exact ⟨none, 0, blk_cell hn 0 _ rfl, blk_cell hn 1 _ rfl, blk_cell hn 2 _ rfl, blk_cell hn 3 _ rfl, ints_nil' _⟩
  | 1 => simp at hj; subst hj; exact ⟨none, 0, blk_cell hn 4 _ rfl, blk_cell hn 5 _ rfl, blk_cell hn 6 _ rfl, blk_cell hn 7 _ rfl, ints_nil' _⟩
  | j + 2 => simp at hj
def C4 (x : Nat) (g st ba : Int) (bo : ByteArray) (v : World) : Prop := v.cell? ⟨x, 0, none⟩ = some (.int .i64 g) ∧ v.cell? ⟨x, 1, none⟩ = some (.int .i64 st) ∧ v.cell? ⟨x, 2, none⟩ = some (.int .i64 ba) ∧ v.cell? ⟨x, 3, none⟩ = some (.string bo)
theorem C4.of {x : Nat} {g st ba : Int} {bo : ByteArray} {wx v : World} (h : wx.heap[x]? = some (.cells #[.int .i64 g, .int .i64 st, .int .i64 ba, .string bo] 35 (0, 0))) (hv : Ext wx v) : C4 x g st ba bo v :=
  ⟨blk_cell (hv.blk h) 0 _ rfl, blk_cell (hv.blk h) 1 _ rfl, blk_cell (hv.blk h) 2 _ rfl, blk_cell (hv.blk h) 3 _ rfl⟩
end Go.Proofs.Ytcdfpifhjjiioaa
