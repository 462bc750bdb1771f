/-
  The walk of the statement EventApart: for every two events it returns true.
-/
import Derived.Test.YtcdfpifhjjiioaaEp
import Derived.Test.YtcdfpifhjjiioaaLe
set_option linter.unusedVariables false
set_option linter.unusedSimpArgs false
namespace Go.Proofs.Ytcdfpifhjjiioaa
open Go.RowKit

theorem Ev.enc_inj {a b : Ev} (ha : a.may = true) (hb : b.may = true) (ta : a.text.size < Va.most) (tb : b.text.size < Va.most) : (a.enc.toList == b.enc.toList) = Ev.sameB a b := by
  by_cases h : a = b
  · subst h
    rw [(Ev.sameB_iff a a).2 rfl]; exact beq_self_eq_true _
  · have h1 : Ev.sameB a b = false := by
      cases hs : Ev.sameB a b with
      | false => rfl
      | true => exact absurd ((Ev.sameB_iff a b).1 hs) h
    rw [h1, beq_eq_false_iff_ne]
    intro he
    rw [ByteArray.toList_eq, ByteArray.toList_eq, Ev.enc_data ha, Ev.enc_data hb] at he
    have e1 := Ev.dec_enc ha ta []
    have e2 := Ev.dec_enc hb tb []
    rw [he, e2] at e1
    simp at e1
    exact h e1.symm
theorem evs_two (w : World) (a b : Ev) (A B : Option Addr) (c c' : Nat) (ha : IntsAt w (.slice A a.args.length c) a.args) (hb : IntsAt w (.slice B b.args.length c') b.args) :
    EvsAt (w.alloc (.cells #[.int .i64 a.kind, .int .i64 a.dt, .slice A a.args.length c, .string a.text, .int .i64 b.kind, .int .i64 b.dt, .slice B b.args.length c', .string b.text] 28)) (.slice (some ⟨w.heap.size, 0, none⟩) 2 2) [a, b] := by
  refine ⟨_, 2, rfl, fun _ => ⟨w.heap.size, 0, rfl, by simp, fun j e hj => ?_⟩⟩
  have hn := blk_new w (.cells #[.int .i64 a.kind, .int .i64 a.dt, .slice A a.args.length c, .string a.text, .int .i64 b.kind, .int .i64 b.dt, .slice B b.args.length c', .string b.text] 28)
  match j with
  | 0 =>
    simp at hj; subst hj
    exact ⟨A, c, blk_cell hn 0 _ rfl, blk_cell hn 1 _ rfl, blk_cell hn 2 _ rfl, blk_cell hn 3 _ rfl, ha.ext ((Ext.refl w).alloc _)⟩
  | 1 =>
    simp at hj; subst hj
    exact ⟨B, c', blk_cell hn 4 _ rfl, blk_cell hn 5 _ rfl, blk_cell hn 6 _ rfl, blk_cell hn 7 _ rfl, hb.ext ((Ext.refl w).alloc _)⟩
  | j + 2 => simp at hj
theorem short_eq (v : Value) (l : List Ev) (b : Bool) (hb : Ev.short l = b) (w : World) (h : EvsAt w v l) (hn : l.length ≤ 9223372036854775807) :
    Calls Try.prog 8 #[v] w fun e w' => e = .returned (.bool b) ∧ w = w' := by subst hb; exact short_any v l w h hn

/-- The cells of the two events, in every world behind. -/
def BoxA (w : World) (a0 a1 a2 a3 : Value) (v : World) (g : Nat) : Prop := v.cell? ⟨g, 0, none⟩ = some a0 ∧ v.cell? ⟨g, 1, none⟩ = some a1 ∧ v.cell? ⟨g, 2, none⟩ = some a2 ∧ v.cell? ⟨g, 3, none⟩ = some a3
theorem Ev.short_two {a b : Ev} (h : Ev.short [a, b] = true) : a.args.length ≤ 20 ∧ a.text.size ≤ 300 ∧ b.args.length ≤ 20 ∧ b.text.size ≤ 300 := by
  unfold Ev.short at h
  simp [Ev.short1] at h
  omega
end Go.Proofs.Ytcdfpifhjjiioaa
