/-
  DERIVED. GIVEN WITH THE SEED: THE CARDS: each row of YtiifadnmiambpabGreatDoorRows.lean that lists a variable, with what it lists TIED to the program's text (the seventh form; the later family's looks); each row that meets fmt, with fmt's text TOLD by the authors' own Lean function (tested against real Go, not proved from fmt's source: count such statements apart). THE CARD IS WHAT COUNTS. Prove the row's statement (the work); the ties are given (YtiifadnmiambpabGreatDoorTie.lean); close each card by the builder's one call (the guide's Derived/Test/ToyasCard.lean, 'card_holds'). Laid BY PROGRAM, IN A SANDBOX (cutbox-door.mjs). By AI agents, Wed Nov 11 2026. No macro, syntax, notation, axiom, sorry.
-/
import Derived.Test.YtiifadnmiambpabGreatDoorRows
import GoSem.ClaimSeven
namespace Go.Proofs.YtiifadnmiambpabGreatDoor
namespace Rows

/-- THE TIED CARD OF 'viceroylaw06.AsmBase'. -/
def asmBaseCard : Claim7 := { stood := { row := asmBaseRow, standIns := [], harness := (true, "2740ff60568e452de3324bcfed4e07518295460b7437b4cf97b88c7b4c37c222"), looks := true }, kinds := [], alts := [], laidByText := true, laidKinds := [.data, .data, .data, .data, .listed, .data, .pinned], laidTests := true, laidLooks := .later }
def AsmBaseCardSaid : Prop := Claim7.holds Tryz.pinned (.plain (OpenSpec.ofChange asmBaseSpec)) asmBaseCard

/-- THE TIED CARD OF 'viceroylaw06.AsmFirst'. -/
def asmFirstCard : Claim7 := { stood := { row := asmFirstRow, standIns := [], harness := (true, "2740ff60568e452de3324bcfed4e07518295460b7437b4cf97b88c7b4c37c222"), looks := true }, kinds := [], alts := [], laidByText := true, laidKinds := [.data, .data, .data, .data, .listed, .data, .pinned], laidTests := true, laidLooks := .later }
def AsmFirstCardSaid : Prop := Claim7.holds Tryz.pinned (.plain (OpenSpec.ofChange asmFirstSpec)) asmFirstCard

/-- THE TIED CARD OF 'viceroylaw06.AsmTwice'. -/
def asmTwiceCard : Claim7 := { stood := { row := asmTwiceRow, standIns := [], harness := (true, "2740ff60568e452de3324bcfed4e07518295460b7437b4cf97b88c7b4c37c222"), looks := true }, kinds := [], alts := [], laidByText := true, laidKinds := [.data, .data, .data, .data, .listed, .data, .pinned], laidTests := true, laidLooks := .later }
def AsmTwiceCardSaid : Prop := Claim7.holds Tryz.pinned (.plain (OpenSpec.ofChange asmTwiceSpec)) asmTwiceCard

/-- THE SECOND FORM's CARD OF 'viceroylaw06.AsmBase'. -/
def asmBaseUptoCard : Claim7 := { stood := { row := asmBaseUptoRow, standIns := [], harness := (true, "2740ff60568e452de3324bcfed4e07518295460b7437b4cf97b88c7b4c37c222"), looks := true }, kinds := [], alts := [], laidByText := true, laidKinds := [.data, .data, .data, .data, .listed, .data, .pinned], laidTests := true, laidLooks := .later }
def AsmBaseUptoCardSaid : Prop := Claim7.holds Tryz.pinned (.plain (OpenSpec.upto asmBaseSpec)) asmBaseUptoCard

/-- THE SECOND FORM's CARD OF 'viceroylaw06.AsmFirst'. -/
def asmFirstUptoCard : Claim7 := { stood := { row := asmFirstUptoRow, standIns := [], harness := (true, "2740ff60568e452de3324bcfed4e07518295460b7437b4cf97b88c7b4c37c222"), looks := true }, kinds := [], alts := [], laidByText := true, laidKinds := [.data, .data, .data, .data, .listed, .data, .pinned], laidTests := true, laidLooks := .later }
def AsmFirstUptoCardSaid : Prop := Claim7.holds Tryz.pinned (.plain (OpenSpec.upto asmFirstSpec)) asmFirstUptoCard

/-- THE SECOND FORM's CARD OF 'viceroylaw06.AsmTwice'. -/
def asmTwiceUptoCard : Claim7 := { stood := { row := asmTwiceUptoRow, standIns := [], harness := (true, "2740ff60568e452de3324bcfed4e07518295460b7437b4cf97b88c7b4c37c222"), looks := true }, kinds := [], alts := [], laidByText := true, laidKinds := [.data, .data, .data, .data, .listed, .data, .pinned], laidTests := true, laidLooks := .later }
def AsmTwiceUptoCardSaid : Prop := Claim7.holds Tryz.pinned (.plain (OpenSpec.upto asmTwiceSpec)) asmTwiceUptoCard
end Rows
end Go.Proofs.YtiifadnmiambpabGreatDoor
