/-
  No cell of these rows narrows 'for every input' (looked for: loops, veiled, ifaces, maps, wideKeys, modest, calm, conditions, laid).
  DERIVED. THE GIVEN ROWS OF THIS SEAT. 5 by the template 'for every input the law returns true; each argument reads behind the call as it read before'; 0 by the template 'total and deterministic' (their statements: YtnomofnhfaeohaaTotals.lean).
  GIVEN WITH THE SEED: the statements are not yours to turn. If you find one false, say at which input.
  Laid BY PROGRAM, IN A SANDBOX (cutbox-rows.mjs): the forced cells as the released guide's own fill.sh prints them over the translation ad5f215a2b34ccee… (all of the seat's roots in one cut). By AI agents, Wed Nov 11 2026. No macro, syntax, notation, axiom, sorry.
-/
import Derived.Test.YtnomofnhfaeohaaChecked
import GoSem.Claim
import GoSem.ClaimJoined
import GoSem.ClaimMapViews
import Derived.JoinedTies
import Derived.KernelRfl
namespace Go.Proofs.Ytnomofnhfaeohaa
/- THE CELL 'sum', in the pinned program and in every row, IS THE sha256 OF THE DUMP (.gsa) THAT YtnomofnhfaeohaaProg.lean LOADS. Nothing in Lean hashes anything: it is a label: what it is worth is what the hold of that sum in a sandbox is worth. -/
noncomputable def Try.pinned : Pinned := { name := "ytnomofnhfaeohaa", sum := "ad5f215a2b34ccee2332de17c2a56447847b2222e7e2bcf404a7d7a06bda4185", checked := Try.checked }
namespace Rows
def none {H : Type} : Left H := { results := [], args := [] }

/-- 'shuttlecocklaw04.EventTells': WHATEVER THE INPUT: true; the input reads as it did. -/
def eventTellsSpec : ChangeSpec := { name := "eventTells", fn := fun _ => fun
  | [d1, d2, d3] => { results := [.lit (.bool true)], args := [d1, d2, d3] }
  | _ => none }
def eventTellsRow : OpenClaim := { program := "ytnomofnhfaeohaa", sum := "ad5f215a2b34ccee2332de17c2a56447847b2222e7e2bcf404a7d7a06bda4185", func := "shuttlecock/shuttlecocklaw04.EventTells", spec := "eventTells", inPlace := ["internal/abi.NoEscape"], apart := false }
def EventTellsSaid : Prop := eventTellsRow.holds Try.pinned (OpenSpec.ofChange eventTellsSpec)

/-- ITS FALSE NEIGHBOUR: 'it returns false'. Refute it at one input. -/
def eventTellsWrong : ChangeSpec := { name := "eventTells", fn := fun _ => fun
  | [d1, d2, d3] => { results := [.lit (.bool false)], args := [d1, d2, d3] }
  | _ => none }
def EventTellsWrongFalsely : Prop := eventTellsRow.holds Try.pinned (OpenSpec.ofChange eventTellsWrong)

/-- 'shuttlecocklaw04.EventBack': WHATEVER THE INPUT: true; the input reads as it did. -/
def eventBackSpec : ChangeSpec := { name := "eventBack", fn := fun _ => fun
  | [d1, d2, d3] => { results := [.lit (.bool true)], args := [d1, d2, d3] }
  | _ => none }
def eventBackRow : OpenClaim := { program := "ytnomofnhfaeohaa", sum := "ad5f215a2b34ccee2332de17c2a56447847b2222e7e2bcf404a7d7a06bda4185", func := "shuttlecock/shuttlecocklaw04.EventBack", spec := "eventBack", inPlace := ["internal/abi.NoEscape"], apart := false }
def EventBackSaid : Prop := eventBackRow.holds Try.pinned (OpenSpec.ofChange eventBackSpec)

/-- ITS FALSE NEIGHBOUR: 'it returns false'. Refute it at one input. -/
def eventBackWrong : ChangeSpec := { name := "eventBack", fn := fun _ => fun
  | [d1, d2, d3] => { results := [.lit (.bool false)], args := [d1, d2, d3] }
  | _ => none }
def EventBackWrongFalsely : Prop := eventBackRow.holds Try.pinned (OpenSpec.ofChange eventBackWrong)

/-- 'shuttlecocklaw04.EventLen': WHATEVER THE INPUT: true; the input reads as it did. -/
def eventLenSpec : ChangeSpec := { name := "eventLen", fn := fun _ => fun
  | [d1, d2] => { results := [.lit (.bool true)], args := [d1, d2] }
  | _ => none }
def eventLenRow : OpenClaim := { program := "ytnomofnhfaeohaa", sum := "ad5f215a2b34ccee2332de17c2a56447847b2222e7e2bcf404a7d7a06bda4185", func := "shuttlecock/shuttlecocklaw04.EventLen", spec := "eventLen", inPlace := ["internal/abi.NoEscape"], apart := false }
def EventLenSaid : Prop := eventLenRow.holds Try.pinned (OpenSpec.ofChange eventLenSpec)

/-- ITS FALSE NEIGHBOUR: 'it returns false'. Refute it at one input. -/
def eventLenWrong : ChangeSpec := { name := "eventLen", fn := fun _ => fun
  | [d1, d2] => { results := [.lit (.bool false)], args := [d1, d2] }
  | _ => none }
def EventLenWrongFalsely : Prop := eventLenRow.holds Try.pinned (OpenSpec.ofChange eventLenWrong)

/-- 'shuttlecocklaw04.EventApart': WHATEVER THE INPUT: true; the input reads as it did. -/
def eventApartSpec : ChangeSpec := { name := "eventApart", fn := fun _ => fun
  | [d1, d2] => { results := [.lit (.bool true)], args := [d1, d2] }
  | _ => none }
def eventApartRow : OpenClaim := { program := "ytnomofnhfaeohaa", sum := "ad5f215a2b34ccee2332de17c2a56447847b2222e7e2bcf404a7d7a06bda4185", func := "shuttlecock/shuttlecocklaw04.EventApart", spec := "eventApart", inPlace := ["internal/abi.NoEscape"], apart := false }
def EventApartSaid : Prop := eventApartRow.holds Try.pinned (OpenSpec.ofChange eventApartSpec)

/-- ITS FALSE NEIGHBOUR: 'it returns false'. Refute it at one input. -/
def eventApartWrong : ChangeSpec := { name := "eventApart", fn := fun _ => fun
  | [d1, d2] => { results := [.lit (.bool false)], args := [d1, d2] }
  | _ => none }
def EventApartWrongFalsely : Prop := eventApartRow.holds Try.pinned (OpenSpec.ofChange eventApartWrong)

/-- 'shuttlecocklaw04.EventExp': WHATEVER THE INPUT: true; the input reads as it did. -/
def eventExpSpec : ChangeSpec := { name := "eventExp", fn := fun _ => fun
  | [d1, d2, d3] => { results := [.lit (.bool true)], args := [d1, d2, d3] }
  | _ => none }
def eventExpRow : OpenClaim := { program := "ytnomofnhfaeohaa", sum := "ad5f215a2b34ccee2332de17c2a56447847b2222e7e2bcf404a7d7a06bda4185", func := "shuttlecock/shuttlecocklaw04.EventExp", spec := "eventExp", inPlace := ["internal/abi.NoEscape"], apart := false }
def EventExpSaid : Prop := eventExpRow.holds Try.pinned (OpenSpec.ofChange eventExpSpec)

/-- ITS FALSE NEIGHBOUR: 'it returns false'. Refute it at one input. -/
def eventExpWrong : ChangeSpec := { name := "eventExp", fn := fun _ => fun
  | [d1, d2, d3] => { results := [.lit (.bool false)], args := [d1, d2, d3] }
  | _ => none }
def EventExpWrongFalsely : Prop := eventExpRow.holds Try.pinned (OpenSpec.ofChange eventExpWrong)

/- THE SECOND FORM. 'bulk': how many values and letters a reading holds, each counted each time it is reached (what is shared counts as often as it is met; a slice's spare places count too). A statement '..UptoSaid' is the law's where the arguments, and the package variables that the reading takes, are together of bulk at most 1048576: NARROWER than '..Said'. Prove '..Said' where nothing that the law and all that it calls make is longer than what came in: it says more and counts as full. Else prove '..UptoSaid'. A law counts once. -/
mutual
def uptoBulk {H : Type} : DataW H → Nat
  | .lit (.string bytes) => bytes.length + 1
  | .lit _ => 1
  | .nil => 1
  | .ptr d => uptoBulk d + 1
  | .slice elems spare => uptoBulkAll elems + uptoBulkAll spare + 1
  | .agg parts => uptoBulkAll parts + 1
  | .iface _ d => uptoBulk d + 1
  | .map entries => uptoBulkEntries entries + 1
  | .held _ => 1
def uptoBulkAll {H : Type} : List (DataW H) → Nat
  | [] => 0
  | d :: r => uptoBulk d + uptoBulkAll r
def uptoBulkEntries {H : Type} : List (Lit × DataW H) → Nat
  | [] => 0
  | x :: r => uptoBulkEntry x + uptoBulkEntries r
def uptoBulkEntry {H : Type} : Lit × DataW H → Nat
  | (.string bytes, d) => bytes.length + uptoBulk d + 1
  | (_, d) => uptoBulk d + 1
 end
def uptoSmall : (H : Type) → List (DataW H) → Bool := fun _ ds => decide (uptoBulkAll ds ≤ 1048576)
def OpenSpec.upto (s : _root_.Go.ChangeSpec) : _root_.Go.OpenSpec := { _root_.Go.OpenSpec.ofChange s with cond := some uptoSmall }

/-- 'shuttlecocklaw04.EventTells', WHERE WHAT IT READS IS OF BULK AT MOST 1048576: true; the input reads as it did. -/
def eventTellsUptoRow : OpenClaim := { program := "ytnomofnhfaeohaa", sum := "ad5f215a2b34ccee2332de17c2a56447847b2222e7e2bcf404a7d7a06bda4185", func := "shuttlecock/shuttlecocklaw04.EventTells", spec := "eventTells", inPlace := ["internal/abi.NoEscape"], apart := false, narrowed := true }
def EventTellsUptoSaid : Prop := eventTellsUptoRow.holds Try.pinned (OpenSpec.upto eventTellsSpec)

/-- 'shuttlecocklaw04.EventBack', WHERE WHAT IT READS IS OF BULK AT MOST 1048576: true; the input reads as it did. -/
def eventBackUptoRow : OpenClaim := { program := "ytnomofnhfaeohaa", sum := "ad5f215a2b34ccee2332de17c2a56447847b2222e7e2bcf404a7d7a06bda4185", func := "shuttlecock/shuttlecocklaw04.EventBack", spec := "eventBack", inPlace := ["internal/abi.NoEscape"], apart := false, narrowed := true }
def EventBackUptoSaid : Prop := eventBackUptoRow.holds Try.pinned (OpenSpec.upto eventBackSpec)

/-- 'shuttlecocklaw04.EventLen', WHERE WHAT IT READS IS OF BULK AT MOST 1048576: true; the input reads as it did. -/
def eventLenUptoRow : OpenClaim := { program := "ytnomofnhfaeohaa", sum := "ad5f215a2b34ccee2332de17c2a56447847b2222e7e2bcf404a7d7a06bda4185", func := "shuttlecock/shuttlecocklaw04.EventLen", spec := "eventLen", inPlace := ["internal/abi.NoEscape"], apart := false, narrowed := true }
def EventLenUptoSaid : Prop := eventLenUptoRow.holds Try.pinned (OpenSpec.upto eventLenSpec)

/-- 'shuttlecocklaw04.EventApart', WHERE WHAT IT READS IS OF BULK AT MOST 1048576: true; the input reads as it did. -/
def eventApartUptoRow : OpenClaim := { program := "ytnomofnhfaeohaa", sum := "ad5f215a2b34ccee2332de17c2a56447847b2222e7e2bcf404a7d7a06bda4185", func := "shuttlecock/shuttlecocklaw04.EventApart", spec := "eventApart", inPlace := ["internal/abi.NoEscape"], apart := false, narrowed := true }
def EventApartUptoSaid : Prop := eventApartUptoRow.holds Try.pinned (OpenSpec.upto eventApartSpec)

/-- 'shuttlecocklaw04.EventExp', WHERE WHAT IT READS IS OF BULK AT MOST 1048576: true; the input reads as it did. -/
def eventExpUptoRow : OpenClaim := { program := "ytnomofnhfaeohaa", sum := "ad5f215a2b34ccee2332de17c2a56447847b2222e7e2bcf404a7d7a06bda4185", func := "shuttlecock/shuttlecocklaw04.EventExp", spec := "eventExp", inPlace := ["internal/abi.NoEscape"], apart := false, narrowed := true }
def EventExpUptoSaid : Prop := eventExpUptoRow.holds Try.pinned (OpenSpec.upto eventExpSpec)

end Rows
end Go.Proofs.Ytnomofnhfaeohaa
