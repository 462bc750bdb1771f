/-
  The contract of event.rest: what it reads behind an event's kind.
-/
import Derived.Test.YtcdfpifhjjiioaaEc
import Derived.Test.YtcdfpifhjjiioaaOi
set_option linter.unusedVariables false
set_option linter.unusedSimpArgs false
namespace Go.Proofs.Ytcdfpifhjjiioaa
open Go.RowKit

/-- So many numbers, read one behind the other: which, and where the reader is. -/
def Wi.loop (s : ByteArray) (a e : Int) : Nat → List Int × Int × Int
  | 0 => ([], a, e)
  | n + 1 => ((Wi.loop s a e n).1 ++ [(Wi.num s (Wi.loop s a e n).2.1 (Wi.loop s a e n).2.2).1], (Wi.num s (Wi.loop s a e n).2.1 (Wi.loop s a e n).2.2).2)
theorem Wi.loop_len (s : ByteArray) (a e : Int) : ∀ n, (Wi.loop s a e n).1.length = n
  | 0 => rfl
  | n + 1 => by simp [Wi.loop, Wi.loop_len s a e n]
/-- What is read behind a kind: an event, and where the reader is. -/
def Ev.rest (s : ByteArray) (k a : Int) : Ev × Int × Int :=
  if Ki.exp k then (⟨k, (Wi.num s a 0).1, [], (Wi.text s (Wi.num s a 0).2.1 (Wi.num s a 0).2.2).1⟩, (Wi.text s (Wi.num s a 0).2.1 (Wi.num s a 0).2.2).2)
  else (⟨k, (Wi.num s a 0).1, (Wi.loop s (Wi.num s a 0).2.1 (Wi.num s a 0).2.2 (Ki.args k).length).1, ⟨#[]⟩⟩, (Wi.loop s (Wi.num s a 0).2.1 (Wi.num s a 0).2.2 (Ki.args k).length).2)

/-- A value that reads as an event, its numbers in blocks from B on. -/
def EvNew (B : Nat) (w : World) (v : Value) (e : Ev) : Prop :=
  ∃ A c, v = .agg #[.int .i64 e.kind, .int .i64 e.dt, .slice A e.args.length c, .string e.text] ∧ IntsAt w (.slice A e.args.length c) e.args ∧ ∀ b o, 0 < e.args.length → A = some ⟨b, o, none⟩ → B ≤ b
theorem args_len0 (k : Int) (h : Ki.args k = []) (w : World) : Calls Try.prog 29 #[.int .i64 k] w fun e w' => ∃ A c, e = .returned (.slice A 0 c) ∧ Ext w w' :=
  (args_any k w).mono fun _ _ ⟨v, he, A, c, hv, _, _, hx, _⟩ => by
    rw [h] at hv
    exact ⟨A, c, by rw [he, hv]; rfl, hx⟩
end Go.Proofs.Ytcdfpifhjjiioaa
