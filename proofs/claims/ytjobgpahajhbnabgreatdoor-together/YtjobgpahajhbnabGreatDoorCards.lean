/-
  DERIVED. GIVEN WITH THE SEED: THE CARDS: each row of YtjobgpahajhbnabGreatDoorRows.lean that lists a variable, with what it lists TIED to the program's text (the seventh form; the later family's looks); each row that meets fmt, with fmt's text TOLD by the authors' own Lean function (tested against real Go, not proved from fmt's source: count such statements apart). THE CARD IS WHAT COUNTS. Prove the row's statement (the work); the ties are given (YtjobgpahajhbnabGreatDoorTie.lean); close each card by the builder's one call (the guide's Derived/Test/ToyasCard.lean, 'card_holds'). Laid BY PROGRAM, IN A SANDBOX (cutbox-door.mjs). By AI agents, Wed Nov 11 2026. No macro, syntax, notation, axiom, sorry.
-/
import Derived.Test.YtjobgpahajhbnabGreatDoorRows
import GoSem.ClaimSeven
namespace Go.Proofs.YtjobgpahajhbnabGreatDoor
namespace Rows

/-- THE TIED CARD OF 'glyphskeep.Together'. -/
def togetherCard : Claim7 := { stood := { row := togetherRow, standIns := [], harness := (true, "f0ae46be5ead96a7acacb0a0d2a07021ad8361d4981b8355106de16f32f04e1a"), looks := true }, kinds := [], alts := [], laidByText := true, laidKinds := [.data, .data, .data, .sentinel, .sentinel], laidTests := true, laidLooks := .later }
def TogetherCardSaid : Prop := Claim7.holds Tryz.pinned (.plain (OpenSpec.ofChange togetherSpec)) togetherCard

/-- THE TIED CARD OF 'glyphskeep.Firm'. -/
def firmCard : Claim7 := { stood := { row := firmRow, standIns := [], harness := (true, "f0ae46be5ead96a7acacb0a0d2a07021ad8361d4981b8355106de16f32f04e1a"), looks := true }, kinds := [], alts := [], laidByText := true, laidKinds := [.data, .data, .data, .sentinel, .sentinel], laidTests := true, laidLooks := .later }
def FirmCardSaid : Prop := Claim7.holds Tryz.pinned (.plain (OpenSpec.ofChange firmSpec)) firmCard

/-- THE TIED CARD OF 'glyphskeep.Apart'. -/
def apartCard : Claim7 := { stood := { row := apartRow, standIns := [], harness := (true, "f0ae46be5ead96a7acacb0a0d2a07021ad8361d4981b8355106de16f32f04e1a"), looks := true }, kinds := [], alts := [], laidByText := true, laidKinds := [.data, .data, .data, .sentinel, .sentinel], laidTests := true, laidLooks := .later }
def ApartCardSaid : Prop := Claim7.holds Tryz.pinned (.plain (OpenSpec.ofChange apartSpec)) apartCard

/-- THE SECOND FORM's CARD OF 'glyphskeep.Together'. -/
def togetherUptoCard : Claim7 := { stood := { row := togetherUptoRow, standIns := [], harness := (true, "f0ae46be5ead96a7acacb0a0d2a07021ad8361d4981b8355106de16f32f04e1a"), looks := true }, kinds := [], alts := [], laidByText := true, laidKinds := [.data, .data, .data, .sentinel, .sentinel], laidTests := true, laidLooks := .later }
def TogetherUptoCardSaid : Prop := Claim7.holds Tryz.pinned (.plain (OpenSpec.upto togetherSpec)) togetherUptoCard

/-- THE SECOND FORM's CARD OF 'glyphskeep.Firm'. -/
def firmUptoCard : Claim7 := { stood := { row := firmUptoRow, standIns := [], harness := (true, "f0ae46be5ead96a7acacb0a0d2a07021ad8361d4981b8355106de16f32f04e1a"), looks := true }, kinds := [], alts := [], laidByText := true, laidKinds := [.data, .data, .data, .sentinel, .sentinel], laidTests := true, laidLooks := .later }
def FirmUptoCardSaid : Prop := Claim7.holds Tryz.pinned (.plain (OpenSpec.upto firmSpec)) firmUptoCard

/-- THE SECOND FORM's CARD OF 'glyphskeep.Apart'. -/
def apartUptoCard : Claim7 := { stood := { row := apartUptoRow, standIns := [], harness := (true, "f0ae46be5ead96a7acacb0a0d2a07021ad8361d4981b8355106de16f32f04e1a"), looks := true }, kinds := [], alts := [], laidByText := true, laidKinds := [.data, .data, .data, .sentinel, .sentinel], laidTests := true, laidLooks := .later }
def ApartUptoCardSaid : Prop := Claim7.holds Tryz.pinned (.plain (OpenSpec.upto apartSpec)) apartUptoCard
end Rows
end Go.Proofs.YtjobgpahajhbnabGreatDoor
