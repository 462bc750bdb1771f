/-
  Snaps as plain mathematics.
-/
import Derived.Test.YthkogcgdikgkaaaGc
set_option linter.unusedVariables false
set_option linter.unusedSimpArgs false
namespace Go.Proofs.Ythkogcgdikgkaaa
open Go.RowKit

/-- A P's status: its M, its seq. A G's: its number, its status, its M, its seq. -/
abbrev Gs4 := Int × Int × Int × Int
structure Sn where
  time : Int
  ps : List (Int × Int)
  gs : List Gs4
def snNum (n : Int) : Bool := decide (0 ≤ n) && decide (n < 4611686018427387904)
theorem snNum_iff (n : Int) : snNum n = true ↔ 0 ≤ n ∧ n < 4611686018427387904 := by unfold snNum; simp
/-- What is known of each M: how many Ps, and how many Gs, name it. -/
abbrev Hold := Int → Int × Int
def Hold.put (h : Hold) (m : Int) (p : Int × Int) : Hold := fun y => if y = m then p else h y
/-- The Ps, one by one. -/
def snPs : List (Int × Int) → Hold → Option Hold
  | [], h => some h
  | p :: l, h => if snNum p.1 && snNum p.2 then (if p.1 = 0 then snPs l h else if 0 < (h p.1).1 then none else snPs l (h.put p.1 (1, 0))) else none
/-- May a G be, where that is known of Ms? -/
def snHold (g : Gs4) (h : Hold) : Bool × Hold :=
  if g.2.1 = 1 ∨ g.2.1 = 3 then (decide (g.2.2.1 = 0), h)
  else if g.2.2.1 = 0 ∨ 0 < (h g.2.2.1).2 then (false, h)
  else ((decide (g.2.1 = 2) && decide ((h g.2.2.1).1 = 1)) || (decide (g.2.1 = 4) && decide ((h g.2.2.1).1 = 0)), h.put g.2.2.1 ((h g.2.2.1).1, 1))
def snGs : List Gs4 → Int → Hold → Bool
  | [], _, _ => true
  | g :: l, last, h => if snNum g.1 && snNum g.2.1 && snNum g.2.2.1 && snNum g.2.2.2 && decide (last < g.1) && (snHold g h).1 then snGs l g.1 (snHold g h).2 else false
def Sn.may (s : Sn) : Bool :=
  snNum s.time && decide (s.ps.length ≤ 64) && decide (s.gs.length ≤ 1000) && (match snPs s.ps (fun _ => (0, 0)) with | none => false | some h => snGs s.gs 0 h)
def snPCells (p : Int × Int) : List Value := [.int .i64 p.1, .int .i64 p.2]
def snGCells (g : Gs4) : List Value := [.int .i64 g.1, .int .i64 g.2.1, .int .i64 g.2.2.1, .int .i64 g.2.2.2]

end Go.Proofs.Ythkogcgdikgkaaa
