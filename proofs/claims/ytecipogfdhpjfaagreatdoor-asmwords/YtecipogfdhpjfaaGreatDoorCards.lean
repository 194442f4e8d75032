/-
  DERIVED. GIVEN WITH THE SEED: THE CARDS: each row of YtecipogfdhpjfaaGreatDoorRows.lean that lists a variable, with what it lists TIED to the program's text (the seventh form; the later family's looks); each row that meets fmt, with fmt's text TOLD by the authors' own Lean function (tested against real Go, not proved from fmt's source: count such statements apart). THE CARD IS WHAT COUNTS. Prove the row's statement (the work); the ties are given (YtecipogfdhpjfaaGreatDoorTie.lean); close each card by the builder's one call (the guide's Derived/Test/ToyasCard.lean, 'card_holds'). Laid BY PROGRAM, IN A SANDBOX (cutbox-door.mjs). By AI agents, Wed Nov 11 2026. No macro, syntax, notation, axiom, sorry.
-/
import Derived.Test.YtecipogfdhpjfaaGreatDoorRows
import GoSem.ClaimSeven
namespace Go.Proofs.YtecipogfdhpjfaaGreatDoor
namespace Rows

/-- THE TIED CARD OF 'viceroylaw06.AsmWords'. -/
def asmWordsCard : Claim7 := { stood := { row := asmWordsRow, standIns := [], harness := (true, "35d7917106074d745643cb87913f275ee68aeb60f69d76b45c0bbddcd21480f3"), looks := true }, kinds := [], alts := [], laidByText := true, laidKinds := [.data, .data, .data, .data, .listed, .data, .pinned], laidTests := true, laidLooks := .later }
def AsmWordsCardSaid : Prop := Claim7.holds Tryz.pinned (.plain (OpenSpec.ofChange asmWordsSpec)) asmWordsCard

/-- THE SECOND FORM's CARD OF 'viceroylaw06.AsmWords'. -/
def asmWordsUptoCard : Claim7 := { stood := { row := asmWordsUptoRow, standIns := [], harness := (true, "35d7917106074d745643cb87913f275ee68aeb60f69d76b45c0bbddcd21480f3"), looks := true }, kinds := [], alts := [], laidByText := true, laidKinds := [.data, .data, .data, .data, .listed, .data, .pinned], laidTests := true, laidLooks := .later }
def AsmWordsUptoCardSaid : Prop := Claim7.holds Tryz.pinned (.plain (OpenSpec.upto asmWordsSpec)) asmWordsUptoCard
end Rows
end Go.Proofs.YtecipogfdhpjfaaGreatDoor
