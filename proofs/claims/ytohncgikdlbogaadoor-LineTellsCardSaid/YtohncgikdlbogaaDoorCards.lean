/-
  DERIVED. GIVEN WITH THE SEED: THE CARDS: each row of YtohncgikdlbogaaDoorRows.lean that lists a variable, with what it lists TIED to the program's text (the seventh form; the later family's looks); each row that meets fmt, with fmt's text TOLD by the authors' own Lean function (tested against real Go, not proved from fmt's source: count such statements apart). THE CARD IS WHAT COUNTS. Prove the row's statement (the work); the ties are given (YtohncgikdlbogaaDoorTie.lean); close each card by the builder's one call (the guide's Derived/Test/ToyasCard.lean, 'card_holds'). Laid BY PROGRAM, IN A SANDBOX (cutbox-door.mjs). By AI agents, Wed Nov 11 2026. No macro, syntax, notation, axiom, sorry.
-/
import Derived.Test.YtohncgikdlbogaaDoorRows
import GoSem.ClaimSeven
namespace Go.Proofs.YtohncgikdlbogaaDoor
namespace Rows

/-- THE TIED CARD OF 'shuttlecocklaw25.LineTells'. -/
def lineTellsCard : Claim7 := { stood := { row := lineTellsRow, standIns := [], harness := (true, "c90bc9dcf20826459118a9e8ca2116db8eb3352ba873c43b0ef9cde01721ff9d"), looks := true }, kinds := [], alts := [], laidByText := true, laidKinds := [.data, .data, .data], laidTests := true, laidLooks := .later }
def LineTellsCardSaid : Prop := Claim7.holds Tryd.pinned (.plain (OpenSpec.ofChange lineTellsSpec)) lineTellsCard

/-- THE TIED CARD OF 'shuttlecocklaw25.LineSums'. -/
def lineSumsCard : Claim7 := { stood := { row := lineSumsRow, standIns := [], harness := (true, "c90bc9dcf20826459118a9e8ca2116db8eb3352ba873c43b0ef9cde01721ff9d"), looks := true }, kinds := [], alts := [], laidByText := true, laidKinds := [.data, .data, .data], laidTests := true, laidLooks := .later }
def LineSumsCardSaid : Prop := Claim7.holds Tryd.pinned (.plain (OpenSpec.ofChange lineSumsSpec)) lineSumsCard

/-- THE TIED CARD OF 'shuttlecocklaw25.LinePs'. -/
def linePsCard : Claim7 := { stood := { row := linePsRow, standIns := [], harness := (true, "c90bc9dcf20826459118a9e8ca2116db8eb3352ba873c43b0ef9cde01721ff9d"), looks := true }, kinds := [], alts := [], laidByText := true, laidKinds := [.data, .data, .data], laidTests := true, laidLooks := .later }
def LinePsCardSaid : Prop := Claim7.holds Tryd.pinned (.plain (OpenSpec.ofChange linePsSpec)) linePsCard

/-- THE SECOND FORM's CARD OF 'shuttlecocklaw25.LineTells'. -/
def lineTellsUptoCard : Claim7 := { stood := { row := lineTellsUptoRow, standIns := [], harness := (true, "c90bc9dcf20826459118a9e8ca2116db8eb3352ba873c43b0ef9cde01721ff9d"), looks := true }, kinds := [], alts := [], laidByText := true, laidKinds := [.data, .data, .data], laidTests := true, laidLooks := .later }
def LineTellsUptoCardSaid : Prop := Claim7.holds Tryd.pinned (.plain (OpenSpec.upto lineTellsSpec)) lineTellsUptoCard

/-- THE SECOND FORM's CARD OF 'shuttlecocklaw25.LineSums'. -/
def lineSumsUptoCard : Claim7 := { stood := { row := lineSumsUptoRow, standIns := [], harness := (true, "c90bc9dcf20826459118a9e8ca2116db8eb3352ba873c43b0ef9cde01721ff9d"), looks := true }, kinds := [], alts := [], laidByText := true, laidKinds := [.data, .data, .data], laidTests := true, laidLooks := .later }
def LineSumsUptoCardSaid : Prop := Claim7.holds Tryd.pinned (.plain (OpenSpec.upto lineSumsSpec)) lineSumsUptoCard

/-- THE SECOND FORM's CARD OF 'shuttlecocklaw25.LinePs'. -/
def linePsUptoCard : Claim7 := { stood := { row := linePsUptoRow, standIns := [], harness := (true, "c90bc9dcf20826459118a9e8ca2116db8eb3352ba873c43b0ef9cde01721ff9d"), looks := true }, kinds := [], alts := [], laidByText := true, laidKinds := [.data, .data, .data], laidTests := true, laidLooks := .later }
def LinePsUptoCardSaid : Prop := Claim7.holds Tryd.pinned (.plain (OpenSpec.upto linePsSpec)) linePsUptoCard
end Rows
end Go.Proofs.YtohncgikdlbogaaDoor
