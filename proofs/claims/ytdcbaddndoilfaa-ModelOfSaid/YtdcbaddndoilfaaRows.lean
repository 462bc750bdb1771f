/-
  No cell of these rows narrows 'for every input' (looked for: loops, veiled, ifaces, maps, wideKeys, modest, calm, conditions, laid).
  DERIVED. THE GIVEN ROWS OF THIS SEAT. 5 by the template 'for every input the law returns true; each argument reads behind the call as it read before'; 0 by the template 'total and deterministic' (their statements: YtdcbaddndoilfaaTotals.lean).
  GIVEN WITH THE SEED: the statements are not yours to turn. If you find one false, say at which input.
  Laid BY PROGRAM, IN A SANDBOX (cutbox-rows.mjs): the forced cells as the released guide's own fill.sh prints them over the translation 4694a265be1b803f… (all of the seat's roots in one cut). By AI agents, Wed Nov 11 2026. No macro, syntax, notation, axiom, sorry.
-/
import Derived.Test.YtdcbaddndoilfaaChecked
import GoSem.Claim
import GoSem.ClaimJoined
import GoSem.ClaimMapViews
import Derived.JoinedTies
import Derived.KernelRfl
namespace Go.Proofs.Ytdcbaddndoilfaa
/- THE CELL 'sum', in the pinned program and in every row, IS THE sha256 OF THE DUMP (.gsa) THAT YtdcbaddndoilfaaProg.lean LOADS. Nothing in Lean hashes anything: it is a label: what it is worth is what the hold of that sum in a sandbox is worth. -/
noncomputable def Try.pinned : Pinned := { name := "ytdcbaddndoilfaa", sum := "4694a265be1b803fcd2fdf9f780d025edfdcdb33dce9a8f1b13ecfefe9f97422", checked := Try.checked }
namespace Rows
def none {H : Type} : Left H := { results := [], args := [] }

/-- 'shuttlecocklaw17.ModelApplies': WHATEVER THE INPUT: true; the input reads as it did. -/
def modelAppliesSpec : ChangeSpec := { name := "modelApplies", fn := fun _ => fun
  | [d1, d2] => { results := [.lit (.bool true)], args := [d1, d2] }
  | _ => none }
def modelAppliesRow : OpenClaim := { program := "ytdcbaddndoilfaa", sum := "4694a265be1b803fcd2fdf9f780d025edfdcdb33dce9a8f1b13ecfefe9f97422", func := "shuttlecock/shuttlecocklaw17.ModelApplies", spec := "modelApplies", inPlace := ["slices.overlaps[shuttlecock/api.GStat]"], unfollowed := true, recurses := true, apart := false }
def ModelAppliesSaid : Prop := modelAppliesRow.holds Try.pinned (OpenSpec.ofChange modelAppliesSpec)

/-- ITS FALSE NEIGHBOUR: 'it returns false'. Refute it at one input. -/
def modelAppliesWrong : ChangeSpec := { name := "modelApplies", fn := fun _ => fun
  | [d1, d2] => { results := [.lit (.bool false)], args := [d1, d2] }
  | _ => none }
def ModelAppliesWrongFalsely : Prop := modelAppliesRow.holds Try.pinned (OpenSpec.ofChange modelAppliesWrong)

/-- 'shuttlecocklaw17.ModelOf': WHATEVER THE INPUT: true; the input reads as it did. -/
def modelOfSpec : ChangeSpec := { name := "modelOf", fn := fun _ => fun
  | [d] => { results := [.lit (.bool true)], args := [d] }
  | _ => none }
def modelOfRow : OpenClaim := { program := "ytdcbaddndoilfaa", sum := "4694a265be1b803fcd2fdf9f780d025edfdcdb33dce9a8f1b13ecfefe9f97422", func := "shuttlecock/shuttlecocklaw17.ModelOf", spec := "modelOf", inPlace := ["slices.overlaps[shuttlecock/api.GStat]"], unfollowed := true, recurses := true, apart := false }
def ModelOfSaid : Prop := modelOfRow.holds Try.pinned (OpenSpec.ofChange modelOfSpec)

/-- ITS FALSE NEIGHBOUR: 'it returns false'. Refute it at one input. -/
def modelOfWrong : ChangeSpec := { name := "modelOf", fn := fun _ => fun
  | [d] => { results := [.lit (.bool false)], args := [d] }
  | _ => none }
def ModelOfWrongFalsely : Prop := modelOfRow.holds Try.pinned (OpenSpec.ofChange modelOfWrong)

/-- 'shuttlecocklaw17.ModelKeeps': WHATEVER THE INPUT: true; the input reads as it did. -/
def modelKeepsSpec : ChangeSpec := { name := "modelKeeps", fn := fun _ => fun
  | [d1, d2] => { results := [.lit (.bool true)], args := [d1, d2] }
  | _ => none }
def modelKeepsRow : OpenClaim := { program := "ytdcbaddndoilfaa", sum := "4694a265be1b803fcd2fdf9f780d025edfdcdb33dce9a8f1b13ecfefe9f97422", func := "shuttlecock/shuttlecocklaw17.ModelKeeps", spec := "modelKeeps", inPlace := ["slices.overlaps[shuttlecock/api.GStat]"], unfollowed := true, recurses := true, apart := false }
def ModelKeepsSaid : Prop := modelKeepsRow.holds Try.pinned (OpenSpec.ofChange modelKeepsSpec)

/-- ITS FALSE NEIGHBOUR: 'it returns false'. Refute it at one input. -/
def modelKeepsWrong : ChangeSpec := { name := "modelKeeps", fn := fun _ => fun
  | [d1, d2] => { results := [.lit (.bool false)], args := [d1, d2] }
  | _ => none }
def ModelKeepsWrongFalsely : Prop := modelKeepsRow.holds Try.pinned (OpenSpec.ofChange modelKeepsWrong)

/-- 'shuttlecocklaw17.ModelOnce': WHATEVER THE INPUT: true; the input reads as it did. -/
def modelOnceSpec : ChangeSpec := { name := "modelOnce", fn := fun _ => fun
  | [d1, d2] => { results := [.lit (.bool true)], args := [d1, d2] }
  | _ => none }
def modelOnceRow : OpenClaim := { program := "ytdcbaddndoilfaa", sum := "4694a265be1b803fcd2fdf9f780d025edfdcdb33dce9a8f1b13ecfefe9f97422", func := "shuttlecock/shuttlecocklaw17.ModelOnce", spec := "modelOnce", inPlace := ["slices.overlaps[shuttlecock/api.GStat]"], unfollowed := true, recurses := true, apart := false }
def ModelOnceSaid : Prop := modelOnceRow.holds Try.pinned (OpenSpec.ofChange modelOnceSpec)

/-- ITS FALSE NEIGHBOUR: 'it returns false'. Refute it at one input. -/
def modelOnceWrong : ChangeSpec := { name := "modelOnce", fn := fun _ => fun
  | [d1, d2] => { results := [.lit (.bool false)], args := [d1, d2] }
  | _ => none }
def ModelOnceWrongFalsely : Prop := modelOnceRow.holds Try.pinned (OpenSpec.ofChange modelOnceWrong)

/-- 'shuttlecocklaw17.ModelTimes': WHATEVER THE INPUT: true; the input reads as it did. -/
def modelTimesSpec : ChangeSpec := { name := "modelTimes", fn := fun _ => fun
  | [d1, d2, d3] => { results := [.lit (.bool true)], args := [d1, d2, d3] }
  | _ => none }
def modelTimesRow : OpenClaim := { program := "ytdcbaddndoilfaa", sum := "4694a265be1b803fcd2fdf9f780d025edfdcdb33dce9a8f1b13ecfefe9f97422", func := "shuttlecock/shuttlecocklaw17.ModelTimes", spec := "modelTimes", inPlace := ["slices.overlaps[shuttlecock/api.GStat]"], unfollowed := true, recurses := true, apart := false }
def ModelTimesSaid : Prop := modelTimesRow.holds Try.pinned (OpenSpec.ofChange modelTimesSpec)

/-- ITS FALSE NEIGHBOUR: 'it returns false'. Refute it at one input. -/
def modelTimesWrong : ChangeSpec := { name := "modelTimes", fn := fun _ => fun
  | [d1, d2, d3] => { results := [.lit (.bool false)], args := [d1, d2, d3] }
  | _ => none }
def ModelTimesWrongFalsely : Prop := modelTimesRow.holds Try.pinned (OpenSpec.ofChange modelTimesWrong)

/- THE SECOND FORM. 'bulk': how many values and letters a reading holds, each counted each time it is reached (what is shared counts as often as it is met; a slice's spare places count too). A statement '..UptoSaid' is the law's where the arguments, and the package variables that the reading takes, are together of bulk at most 1048576: NARROWER than '..Said'. Prove '..Said' where nothing that the law and all that it calls make is longer than what came in: it says more and counts as full. Else prove '..UptoSaid'. A law counts once. -/
mutual
def uptoBulk {H : Type} : DataW H → Nat
  | .lit (.string bytes) => bytes.length + 1
  | .lit _ => 1
  | .nil => 1
  | .ptr d => uptoBulk d + 1
  | .slice elems spare => uptoBulkAll elems + uptoBulkAll spare + 1
  | .agg parts => uptoBulkAll parts + 1
  | .iface _ d => uptoBulk d + 1
  | .map entries => uptoBulkEntries entries + 1
  | .held _ => 1
def uptoBulkAll {H : Type} : List (DataW H) → Nat
  | [] => 0
  | d :: r => uptoBulk d + uptoBulkAll r
def uptoBulkEntries {H : Type} : List (Lit × DataW H) → Nat
  | [] => 0
  | x :: r => uptoBulkEntry x + uptoBulkEntries r
def uptoBulkEntry {H : Type} : Lit × DataW H → Nat
  | (.string bytes, d) => bytes.length + uptoBulk d + 1
  | (_, d) => uptoBulk d + 1
 end
def uptoSmall : (H : Type) → List (DataW H) → Bool := fun _ ds => decide (uptoBulkAll ds ≤ 1048576)
def OpenSpec.upto (s : _root_.Go.ChangeSpec) : _root_.Go.OpenSpec := { _root_.Go.OpenSpec.ofChange s with cond := some uptoSmall }

/-- 'shuttlecocklaw17.ModelApplies', WHERE WHAT IT READS IS OF BULK AT MOST 1048576: true; the input reads as it did. -/
def modelAppliesUptoRow : OpenClaim := { program := "ytdcbaddndoilfaa", sum := "4694a265be1b803fcd2fdf9f780d025edfdcdb33dce9a8f1b13ecfefe9f97422", func := "shuttlecock/shuttlecocklaw17.ModelApplies", spec := "modelApplies", inPlace := ["slices.overlaps[shuttlecock/api.GStat]"], unfollowed := true, recurses := true, apart := false, narrowed := true }
def ModelAppliesUptoSaid : Prop := modelAppliesUptoRow.holds Try.pinned (OpenSpec.upto modelAppliesSpec)

/-- 'shuttlecocklaw17.ModelOf', WHERE WHAT IT READS IS OF BULK AT MOST 1048576: true; the input reads as it did. -/
def modelOfUptoRow : OpenClaim := { program := "ytdcbaddndoilfaa", sum := "4694a265be1b803fcd2fdf9f780d025edfdcdb33dce9a8f1b13ecfefe9f97422", func := "shuttlecock/shuttlecocklaw17.ModelOf", spec := "modelOf", inPlace := ["slices.overlaps[shuttlecock/api.GStat]"], unfollowed := true, recurses := true, apart := false, narrowed := true }
def ModelOfUptoSaid : Prop := modelOfUptoRow.holds Try.pinned (OpenSpec.upto modelOfSpec)

/-- 'shuttlecocklaw17.ModelKeeps', WHERE WHAT IT READS IS OF BULK AT MOST 1048576: true; the input reads as it did. -/
def modelKeepsUptoRow : OpenClaim := { program := "ytdcbaddndoilfaa", sum := "4694a265be1b803fcd2fdf9f780d025edfdcdb33dce9a8f1b13ecfefe9f97422", func := "shuttlecock/shuttlecocklaw17.ModelKeeps", spec := "modelKeeps", inPlace := ["slices.overlaps[shuttlecock/api.GStat]"], unfollowed := true, recurses := true, apart := false, narrowed := true }
def ModelKeepsUptoSaid : Prop := modelKeepsUptoRow.holds Try.pinned (OpenSpec.upto modelKeepsSpec)

/-- 'shuttlecocklaw17.ModelOnce', WHERE WHAT IT READS IS OF BULK AT MOST 1048576: true; the input reads as it did. -/
def modelOnceUptoRow : OpenClaim := { program := "ytdcbaddndoilfaa", sum := "4694a265be1b803fcd2fdf9f780d025edfdcdb33dce9a8f1b13ecfefe9f97422", func := "shuttlecock/shuttlecocklaw17.ModelOnce", spec := "modelOnce", inPlace := ["slices.overlaps[shuttlecock/api.GStat]"], unfollowed := true, recurses := true, apart := false, narrowed := true }
def ModelOnceUptoSaid : Prop := modelOnceUptoRow.holds Try.pinned (OpenSpec.upto modelOnceSpec)

/-- 'shuttlecocklaw17.ModelTimes', WHERE WHAT IT READS IS OF BULK AT MOST 1048576: true; the input reads as it did. -/
def modelTimesUptoRow : OpenClaim := { program := "ytdcbaddndoilfaa", sum := "4694a265be1b803fcd2fdf9f780d025edfdcdb33dce9a8f1b13ecfefe9f97422", func := "shuttlecock/shuttlecocklaw17.ModelTimes", spec := "modelTimes", inPlace := ["slices.overlaps[shuttlecock/api.GStat]"], unfollowed := true, recurses := true, apart := false, narrowed := true }
def ModelTimesUptoSaid : Prop := modelTimesUptoRow.holds Try.pinned (OpenSpec.upto modelTimesSpec)

end Rows
end Go.Proofs.Ytdcbaddndoilfaa
