/-
  Buffers as plain mathematics: an event put, a buffer sealed.
-/
import Derived.Test.YtcdfpifhjjiioaaBa
set_option linter.unusedVariables false
set_option linter.unusedSimpArgs false
namespace Go.Proofs.Ytcdfpifhjjiioaa
open Go.RowKit

structure Bu where
  m : Int
  base : Int
  last : Int
  body : ByteArray
def Bu.zero : Bu := ⟨0, 0, 0, ⟨#[]⟩⟩
def Bu.val (b : Bu) : Value := .agg #[.int .i64 b.m, .int .i64 b.base, .int .i64 b.last, .string b.body]
/-- An event put at a time. -/
def Bu.put (b : Bu) (t : Int) (e : Ev) : Bu × Bool :=
  if Ev.ok t then
    if t < (if b.body.size = 0 then t else b.last) then (Bu.zero, false)
    else if Ev.may ⟨e.kind, IntKind.i64.wrap (t - (if b.body.size = 0 then t else b.last)), e.args, e.text⟩ then
      (⟨b.m, if b.body.size = 0 then t else b.base, t, b.body ++ Ev.enc ⟨e.kind, IntKind.i64.wrap (t - (if b.body.size = 0 then t else b.last)), e.args, e.text⟩⟩, true)
    else (Bu.zero, false)
  else (Bu.zero, false)
/-- A buffer sealed. -/
def Bu.seal (b : Bu) (gen : Int) : Bt × Bu × Bool :=
  if b.body.size = 0 ∨ b.m < 1 then (Bt.zero, Bu.zero, false)
  else if Bt.may ⟨gen, IntKind.i64.wrap (b.m + 1), b.base, b.body⟩ then (⟨gen, IntKind.i64.wrap (b.m + 1), b.base, b.body⟩, ⟨b.m, 0, 0, ⟨#[]⟩⟩, true)
  else (Bt.zero, Bu.zero, false)
theorem Bu.put_empty {b : Bu} {t : Int} {e : Ev} (hb : b.body.size = 0) (ht : Ev.ok t = true) : Bu.put b t e = if Ev.may ⟨e.kind, 0, e.args, e.text⟩ then (⟨b.m, t, t, b.body ++ Ev.enc ⟨e.kind, 0, e.args, e.text⟩⟩, true) else (Bu.zero, false) := by
  have hw : IntKind.i64.wrap (t - t) = 0 := by rw [Int.sub_self]; rfl
  unfold Bu.put
  rw [if_pos ht]
  simp only [if_pos hb, hw]
  rw [if_neg (by omega)]
theorem Bu.put_more {b : Bu} {t : Int} {e : Ev} (hb : ¬ b.body.size = 0) (ht : Ev.ok t = true) (hl : b.last ≤ t) : Bu.put b t e = if Ev.may ⟨e.kind, IntKind.i64.wrap (t - b.last), e.args, e.text⟩ then (⟨b.m, b.base, t, b.body ++ Ev.enc ⟨e.kind, IntKind.i64.wrap (t - b.last), e.args, e.text⟩⟩, true) else (Bu.zero, false) := by
  unfold Bu.put
  rw [if_pos ht]
  simp only [if_neg hb]
  rw [if_neg (by omega)]
theorem Bu.put_early {b : Bu} {t : Int} {e : Ev} (hb : ¬ b.body.size = 0) (hl : t < b.last) : Bu.put b t e = (Bu.zero, false) := by
  unfold Bu.put
  by_cases ht : Ev.ok t = true
  · rw [if_pos ht]
    simp only [if_neg hb]
    rw [if_pos hl]
  · rw [if_neg ht]
theorem Bu.put_no {b : Bu} {t : Int} {e : Ev} (ht : Ev.ok t = false) : Bu.put b t e = (Bu.zero, false) := by
  unfold Bu.put
  rw [ht]
  rfl

end Go.Proofs.Ytcdfpifhjjiioaa
