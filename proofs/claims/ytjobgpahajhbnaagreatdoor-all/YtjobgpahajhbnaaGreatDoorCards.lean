/-
  DERIVED. GIVEN WITH THE SEED: THE CARDS: each row of YtjobgpahajhbnaaGreatDoorRows.lean that lists a variable, with what it lists TIED to the program's text (the seventh form; the later family's looks); each row that meets fmt, with fmt's text TOLD by the authors' own Lean function (tested against real Go, not proved from fmt's source: count such statements apart). THE CARD IS WHAT COUNTS. Prove the row's statement (the work); the ties are given (YtjobgpahajhbnaaGreatDoorTie.lean); close each card by the builder's one call (the guide's Derived/Test/ToyasCard.lean, 'card_holds'). Laid BY PROGRAM, IN A SANDBOX (cutbox-door.mjs). By AI agents, Wed Nov 11 2026. No macro, syntax, notation, axiom, sorry.
-/
import Derived.Test.YtjobgpahajhbnaaGreatDoorRows
import GoSem.ClaimSeven
namespace Go.Proofs.YtjobgpahajhbnaaGreatDoor
namespace Rows

/-- THE TIED CARD OF 'glyphslaw.Lines'. -/
def linesCard : Claim7 := { stood := { row := linesRow, standIns := [], harness := (true, "7e4252a3c9b61250078ea8180027d8b9494df6eb446f1483c2af2d8f730754ae"), looks := true }, kinds := [], alts := [], laidByText := true, laidKinds := [.data, .data, .data, .sentinel, .sentinel], laidTests := true, laidLooks := .later }
def LinesCardSaid : Prop := Claim7.holds Tryz.pinned (.plain (OpenSpec.ofChange linesSpec)) linesCard

/-- THE TIED CARD OF 'glyphskeep.Cells'. -/
def cellsCard : Claim7 := { stood := { row := cellsRow, standIns := [], harness := (true, "7e4252a3c9b61250078ea8180027d8b9494df6eb446f1483c2af2d8f730754ae"), looks := true }, kinds := [], alts := [], laidByText := true, laidKinds := [.data, .data, .data, .sentinel, .sentinel], laidTests := true, laidLooks := .later }
def CellsCardSaid : Prop := Claim7.holds Tryz.pinned (.plain (OpenSpec.ofChange cellsSpec)) cellsCard

/-- THE TIED CARD OF 'glyphskeep.Folds'. -/
def foldsCard : Claim7 := { stood := { row := foldsRow, standIns := [], harness := (true, "7e4252a3c9b61250078ea8180027d8b9494df6eb446f1483c2af2d8f730754ae"), looks := true }, kinds := [], alts := [], laidByText := true, laidKinds := [.data, .data, .data, .sentinel, .sentinel], laidTests := true, laidLooks := .later }
def FoldsCardSaid : Prop := Claim7.holds Tryz.pinned (.plain (OpenSpec.ofChange foldsSpec)) foldsCard

/-- THE TIED CARD OF 'glyphskeep.Tables'. -/
def tablesCard : Claim7 := { stood := { row := tablesRow, standIns := [], harness := (true, "7e4252a3c9b61250078ea8180027d8b9494df6eb446f1483c2af2d8f730754ae"), looks := true }, kinds := [], alts := [], laidByText := true, laidKinds := [.data, .data, .data, .sentinel, .sentinel], laidTests := true, laidLooks := .later }
def TablesCardSaid : Prop := Claim7.holds Tryz.pinned (.plain (OpenSpec.ofChange tablesSpec)) tablesCard

/-- THE TIED CARD OF 'glyphskeep.Turned'. -/
def turnedCard : Claim7 := { stood := { row := turnedRow, standIns := [], harness := (true, "7e4252a3c9b61250078ea8180027d8b9494df6eb446f1483c2af2d8f730754ae"), looks := true }, kinds := [], alts := [], laidByText := true, laidKinds := [.data, .data, .data, .sentinel, .sentinel], laidTests := true, laidLooks := .later }
def TurnedCardSaid : Prop := Claim7.holds Tryz.pinned (.plain (OpenSpec.ofChange turnedSpec)) turnedCard

/-- THE TIED CARD OF 'glyphskeep.Sorted'. -/
def sortedCard : Claim7 := { stood := { row := sortedRow, standIns := [], harness := (true, "7e4252a3c9b61250078ea8180027d8b9494df6eb446f1483c2af2d8f730754ae"), looks := true }, kinds := [], alts := [], laidByText := true, laidKinds := [.data, .data, .data, .sentinel, .sentinel], laidTests := true, laidLooks := .later }
def SortedCardSaid : Prop := Claim7.holds Tryz.pinned (.plain (OpenSpec.ofChange sortedSpec)) sortedCard

/-- THE TIED CARD OF 'glyphskeep.Found'. -/
def foundCard : Claim7 := { stood := { row := foundRow, standIns := [], harness := (true, "7e4252a3c9b61250078ea8180027d8b9494df6eb446f1483c2af2d8f730754ae"), looks := true }, kinds := [], alts := [], laidByText := true, laidKinds := [.data, .data, .data, .sentinel, .sentinel], laidTests := true, laidLooks := .later }
def FoundCardSaid : Prop := Claim7.holds Tryz.pinned (.plain (OpenSpec.ofChange foundSpec)) foundCard

/-- THE TIED CARD OF 'glyphskeep.Right'. -/
def rightCard : Claim7 := { stood := { row := rightRow, standIns := [], harness := (true, "7e4252a3c9b61250078ea8180027d8b9494df6eb446f1483c2af2d8f730754ae"), looks := true }, kinds := [], alts := [], laidByText := true, laidKinds := [.data, .data, .data, .sentinel, .sentinel], laidTests := true, laidLooks := .later }
def RightCardSaid : Prop := Claim7.holds Tryz.pinned (.plain (OpenSpec.ofChange rightSpec)) rightCard

/-- THE TIED CARD OF 'glyphskeep.Named'. -/
def namedCard : Claim7 := { stood := { row := namedRow, standIns := [], harness := (true, "7e4252a3c9b61250078ea8180027d8b9494df6eb446f1483c2af2d8f730754ae"), looks := true }, kinds := [], alts := [], laidByText := true, laidKinds := [.data, .data, .data, .sentinel, .sentinel], laidTests := true, laidLooks := .later }
def NamedCardSaid : Prop := Claim7.holds Tryz.pinned (.plain (OpenSpec.ofChange namedSpec)) namedCard

/-- THE TIED CARD OF 'glyphskeep.Fuel'. -/
def fuelCard : Claim7 := { stood := { row := fuelRow, standIns := [], harness := (true, "7e4252a3c9b61250078ea8180027d8b9494df6eb446f1483c2af2d8f730754ae"), looks := true }, kinds := [], alts := [], laidByText := true, laidKinds := [.data, .data, .data, .sentinel, .sentinel], laidTests := true, laidLooks := .later }
def FuelCardSaid : Prop := Claim7.holds Tryz.pinned (.plain (OpenSpec.ofChange fuelSpec)) fuelCard

/-- THE TIED CARD OF 'glyphslaw.All'. -/
def allCard : Claim7 := { stood := { row := allRow, standIns := [], harness := (true, "7e4252a3c9b61250078ea8180027d8b9494df6eb446f1483c2af2d8f730754ae"), looks := true }, kinds := [], alts := [], laidByText := true, laidKinds := [.data, .data, .data, .sentinel, .sentinel], laidTests := true, laidLooks := .later }
def AllCardSaid : Prop := Claim7.holds Tryz.pinned (.plain (OpenSpec.ofChange allSpec)) allCard

/-- THE SECOND FORM's CARD OF 'glyphslaw.Lines'. -/
def linesUptoCard : Claim7 := { stood := { row := linesUptoRow, standIns := [], harness := (true, "7e4252a3c9b61250078ea8180027d8b9494df6eb446f1483c2af2d8f730754ae"), looks := true }, kinds := [], alts := [], laidByText := true, laidKinds := [.data, .data, .data, .sentinel, .sentinel], laidTests := true, laidLooks := .later }
def LinesUptoCardSaid : Prop := Claim7.holds Tryz.pinned (.plain (OpenSpec.upto linesSpec)) linesUptoCard

/-- THE SECOND FORM's CARD OF 'glyphskeep.Cells'. -/
def cellsUptoCard : Claim7 := { stood := { row := cellsUptoRow, standIns := [], harness := (true, "7e4252a3c9b61250078ea8180027d8b9494df6eb446f1483c2af2d8f730754ae"), looks := true }, kinds := [], alts := [], laidByText := true, laidKinds := [.data, .data, .data, .sentinel, .sentinel], laidTests := true, laidLooks := .later }
def CellsUptoCardSaid : Prop := Claim7.holds Tryz.pinned (.plain (OpenSpec.upto cellsSpec)) cellsUptoCard

/-- THE SECOND FORM's CARD OF 'glyphskeep.Folds'. -/
def foldsUptoCard : Claim7 := { stood := { row := foldsUptoRow, standIns := [], harness := (true, "7e4252a3c9b61250078ea8180027d8b9494df6eb446f1483c2af2d8f730754ae"), looks := true }, kinds := [], alts := [], laidByText := true, laidKinds := [.data, .data, .data, .sentinel, .sentinel], laidTests := true, laidLooks := .later }
def FoldsUptoCardSaid : Prop := Claim7.holds Tryz.pinned (.plain (OpenSpec.upto foldsSpec)) foldsUptoCard

/-- THE SECOND FORM's CARD OF 'glyphskeep.Tables'. -/
def tablesUptoCard : Claim7 := { stood := { row := tablesUptoRow, standIns := [], harness := (true, "7e4252a3c9b61250078ea8180027d8b9494df6eb446f1483c2af2d8f730754ae"), looks := true }, kinds := [], alts := [], laidByText := true, laidKinds := [.data, .data, .data, .sentinel, .sentinel], laidTests := true, laidLooks := .later }
def TablesUptoCardSaid : Prop := Claim7.holds Tryz.pinned (.plain (OpenSpec.upto tablesSpec)) tablesUptoCard

/-- THE SECOND FORM's CARD OF 'glyphskeep.Turned'. -/
def turnedUptoCard : Claim7 := { stood := { row := turnedUptoRow, standIns := [], harness := (true, "7e4252a3c9b61250078ea8180027d8b9494df6eb446f1483c2af2d8f730754ae"), looks := true }, kinds := [], alts := [], laidByText := true, laidKinds := [.data, .data, .data, .sentinel, .sentinel], laidTests := true, laidLooks := .later }
def TurnedUptoCardSaid : Prop := Claim7.holds Tryz.pinned (.plain (OpenSpec.upto turnedSpec)) turnedUptoCard

/-- THE SECOND FORM's CARD OF 'glyphskeep.Sorted'. -/
def sortedUptoCard : Claim7 := { stood := { row := sortedUptoRow, standIns := [], harness := (true, "7e4252a3c9b61250078ea8180027d8b9494df6eb446f1483c2af2d8f730754ae"), looks := true }, kinds := [], alts := [], laidByText := true, laidKinds := [.data, .data, .data, .sentinel, .sentinel], laidTests := true, laidLooks := .later }
def SortedUptoCardSaid : Prop := Claim7.holds Tryz.pinned (.plain (OpenSpec.upto sortedSpec)) sortedUptoCard

/-- THE SECOND FORM's CARD OF 'glyphskeep.Found'. -/
def foundUptoCard : Claim7 := { stood := { row := foundUptoRow, standIns := [], harness := (true, "7e4252a3c9b61250078ea8180027d8b9494df6eb446f1483c2af2d8f730754ae"), looks := true }, kinds := [], alts := [], laidByText := true, laidKinds := [.data, .data, .data, .sentinel, .sentinel], laidTests := true, laidLooks := .later }
def FoundUptoCardSaid : Prop := Claim7.holds Tryz.pinned (.plain (OpenSpec.upto foundSpec)) foundUptoCard

/-- THE SECOND FORM's CARD OF 'glyphskeep.Right'. -/
def rightUptoCard : Claim7 := { stood := { row := rightUptoRow, standIns := [], harness := (true, "7e4252a3c9b61250078ea8180027d8b9494df6eb446f1483c2af2d8f730754ae"), looks := true }, kinds := [], alts := [], laidByText := true, laidKinds := [.data, .data, .data, .sentinel, .sentinel], laidTests := true, laidLooks := .later }
def RightUptoCardSaid : Prop := Claim7.holds Tryz.pinned (.plain (OpenSpec.upto rightSpec)) rightUptoCard

/-- THE SECOND FORM's CARD OF 'glyphskeep.Named'. -/
def namedUptoCard : Claim7 := { stood := { row := namedUptoRow, standIns := [], harness := (true, "7e4252a3c9b61250078ea8180027d8b9494df6eb446f1483c2af2d8f730754ae"), looks := true }, kinds := [], alts := [], laidByText := true, laidKinds := [.data, .data, .data, .sentinel, .sentinel], laidTests := true, laidLooks := .later }
def NamedUptoCardSaid : Prop := Claim7.holds Tryz.pinned (.plain (OpenSpec.upto namedSpec)) namedUptoCard

/-- THE SECOND FORM's CARD OF 'glyphskeep.Fuel'. -/
def fuelUptoCard : Claim7 := { stood := { row := fuelUptoRow, standIns := [], harness := (true, "7e4252a3c9b61250078ea8180027d8b9494df6eb446f1483c2af2d8f730754ae"), looks := true }, kinds := [], alts := [], laidByText := true, laidKinds := [.data, .data, .data, .sentinel, .sentinel], laidTests := true, laidLooks := .later }
def FuelUptoCardSaid : Prop := Claim7.holds Tryz.pinned (.plain (OpenSpec.upto fuelSpec)) fuelUptoCard

/-- THE SECOND FORM's CARD OF 'glyphslaw.All'. -/
def allUptoCard : Claim7 := { stood := { row := allUptoRow, standIns := [], harness := (true, "7e4252a3c9b61250078ea8180027d8b9494df6eb446f1483c2af2d8f730754ae"), looks := true }, kinds := [], alts := [], laidByText := true, laidKinds := [.data, .data, .data, .sentinel, .sentinel], laidTests := true, laidLooks := .later }
def AllUptoCardSaid : Prop := Claim7.holds Tryz.pinned (.plain (OpenSpec.upto allSpec)) allUptoCard
end Rows
end Go.Proofs.YtjobgpahajhbnaaGreatDoor
