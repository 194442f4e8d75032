/-
  The chapter's examples, as plain facts. No program, no statement.
-/
import Derived.Test.YtecipogfdhpjfaaGreatDoorAsmDefs
namespace Go.Proofs.YtecipogfdhpjfaaGreatDoor
open Go.RowKit

theorem awake_one : asmT 64 [97, 58, 32, 110, 111, 112, 10, 98, 58, 32, 98, 101, 113, 32, 114, 49, 44, 32, 114, 50, 44, 32, 97, 10, 106, 109, 112, 32, 98] = ⟨[419430400, 185729088, 234881092], 0, 0⟩ := by decide +kernel
theorem awake_two : asmT 0 [110, 111, 112, 10, 109, 111, 118, 105, 32, 114, 49, 54, 44, 32, 48] = ⟨[], 2, 63⟩ := by decide +kernel
theorem awake_print : printB [118620168, 0] = [108, 100, 114, 32, 114, 49, 44, 32, 91, 114, 50, 32, 43, 32, 56, 93, 10, 119, 111, 114, 100, 32, 48, 120, 48, 48, 48, 48, 48, 48, 48, 48, 10] := by decide +kernel
theorem awake_name : mnOf 25 = [110, 111, 112] := by decide +kernel

end Go.Proofs.YtecipogfdhpjfaaGreatDoor
