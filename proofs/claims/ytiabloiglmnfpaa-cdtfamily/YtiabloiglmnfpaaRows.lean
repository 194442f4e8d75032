/-
  No cell of these rows narrows 'for every input' (looked for: loops, veiled, ifaces, maps, wideKeys, modest, calm, conditions, laid).
  DERIVED. THE GIVEN ROWS OF THIS SEAT. 6 by the template 'for every input the law returns true; each argument reads behind the call as it read before'; 0 by the template 'total and deterministic' (their statements: YtiabloiglmnfpaaTotals.lean).
  GIVEN WITH THE SEED: the statements are not yours to turn. If you find one false, say at which input.
  Laid BY PROGRAM, IN A SANDBOX (cutbox-rows.mjs): the forced cells as the released guide's own fill.sh prints them over the translation 7deded6f94f1a7c8… (all of the seat's roots in one cut). By AI agents, Wed Nov 11 2026. No macro, syntax, notation, axiom, sorry.
-/
import Derived.Test.YtiabloiglmnfpaaChecked
import GoSem.Claim
import GoSem.ClaimJoined
import GoSem.ClaimMapViews
import Derived.JoinedTies
import Derived.KernelRfl
namespace Go.Proofs.Ytiabloiglmnfpaa
/- THE CELL 'sum', in the pinned program and in every row, IS THE sha256 OF THE DUMP (.gsa) THAT YtiabloiglmnfpaaProg.lean LOADS. Nothing in Lean hashes anything: it is a label: what it is worth is what the hold of that sum in a sandbox is worth. -/
noncomputable def Try.pinned : Pinned := { name := "ytiabloiglmnfpaa", sum := "7deded6f94f1a7c8a4324a385406a4d5bfe1a1766a6dd8dbe9b0a0e9a0d42a74", checked := Try.checked }
namespace Rows
def none {H : Type} : Left H := { results := [], args := [] }

/-- 'viceroylaw13.CdtPlays': WHATEVER THE INPUT: true; the input reads as it did. -/
def cdtPlaysSpec : ChangeSpec := { name := "cdtPlays", fn := fun _ => fun
  | [d] => { results := [.lit (.bool true)], args := [d] }
  | _ => none }
def cdtPlaysRow : OpenClaim := { program := "ytiabloiglmnfpaa", sum := "7deded6f94f1a7c8a4324a385406a4d5bfe1a1766a6dd8dbe9b0a0e9a0d42a74", func := "viceroy/viceroylaw13.CdtPlays", spec := "cdtPlays", unfollowed := true, recurses := true, plainKeys := false, apart := false }
def CdtPlaysSaid : Prop := cdtPlaysRow.holds Try.pinned (OpenSpec.ofChange cdtPlaysSpec)

/-- ITS FALSE NEIGHBOUR: 'it returns false'. Refute it at one input. -/
def cdtPlaysWrong : ChangeSpec := { name := "cdtPlays", fn := fun _ => fun
  | [d] => { results := [.lit (.bool false)], args := [d] }
  | _ => none }
def CdtPlaysWrongFalsely : Prop := cdtPlaysRow.holds Try.pinned (OpenSpec.ofChange cdtPlaysWrong)

/-- 'viceroylaw13.CdtForest': WHATEVER THE INPUT: true; the input reads as it did. -/
def cdtForestSpec : ChangeSpec := { name := "cdtForest", fn := fun _ => fun
  | [d] => { results := [.lit (.bool true)], args := [d] }
  | _ => none }
def cdtForestRow : OpenClaim := { program := "ytiabloiglmnfpaa", sum := "7deded6f94f1a7c8a4324a385406a4d5bfe1a1766a6dd8dbe9b0a0e9a0d42a74", func := "viceroy/viceroylaw13.CdtForest", spec := "cdtForest", unfollowed := true, recurses := true, plainKeys := false, apart := false }
def CdtForestSaid : Prop := cdtForestRow.holds Try.pinned (OpenSpec.ofChange cdtForestSpec)

/-- ITS FALSE NEIGHBOUR: 'it returns false'. Refute it at one input. -/
def cdtForestWrong : ChangeSpec := { name := "cdtForest", fn := fun _ => fun
  | [d] => { results := [.lit (.bool false)], args := [d] }
  | _ => none }
def CdtForestWrongFalsely : Prop := cdtForestRow.holds Try.pinned (OpenSpec.ofChange cdtForestWrong)

/-- 'viceroylaw13.CdtBack': WHATEVER THE INPUT: true; the input reads as it did. -/
def cdtBackSpec : ChangeSpec := { name := "cdtBack", fn := fun _ => fun
  | [d1, d2, d3, d4] => { results := [.lit (.bool true)], args := [d1, d2, d3, d4] }
  | _ => none }
def cdtBackRow : OpenClaim := { program := "ytiabloiglmnfpaa", sum := "7deded6f94f1a7c8a4324a385406a4d5bfe1a1766a6dd8dbe9b0a0e9a0d42a74", func := "viceroy/viceroylaw13.CdtBack", spec := "cdtBack", unfollowed := true, recurses := true, plainKeys := false, apart := false }
def CdtBackSaid : Prop := cdtBackRow.holds Try.pinned (OpenSpec.ofChange cdtBackSpec)

/-- ITS FALSE NEIGHBOUR: 'it returns false'. Refute it at one input. -/
def cdtBackWrong : ChangeSpec := { name := "cdtBack", fn := fun _ => fun
  | [d1, d2, d3, d4] => { results := [.lit (.bool false)], args := [d1, d2, d3, d4] }
  | _ => none }
def CdtBackWrongFalsely : Prop := cdtBackRow.holds Try.pinned (OpenSpec.ofChange cdtBackWrong)

/-- 'viceroylaw13.CdtFamily': WHATEVER THE INPUT: true; the input reads as it did. -/
def cdtFamilySpec : ChangeSpec := { name := "cdtFamily", fn := fun _ => fun
  | [d1, d2] => { results := [.lit (.bool true)], args := [d1, d2] }
  | _ => none }
def cdtFamilyRow : OpenClaim := { program := "ytiabloiglmnfpaa", sum := "7deded6f94f1a7c8a4324a385406a4d5bfe1a1766a6dd8dbe9b0a0e9a0d42a74", func := "viceroy/viceroylaw13.CdtFamily", spec := "cdtFamily", unfollowed := true, recurses := true, plainKeys := false, apart := false }
def CdtFamilySaid : Prop := cdtFamilyRow.holds Try.pinned (OpenSpec.ofChange cdtFamilySpec)

/-- ITS FALSE NEIGHBOUR: 'it returns false'. Refute it at one input. -/
def cdtFamilyWrong : ChangeSpec := { name := "cdtFamily", fn := fun _ => fun
  | [d1, d2] => { results := [.lit (.bool false)], args := [d1, d2] }
  | _ => none }
def CdtFamilyWrongFalsely : Prop := cdtFamilyRow.holds Try.pinned (OpenSpec.ofChange cdtFamilyWrong)

/-- 'viceroylaw13.CdtChild': WHATEVER THE INPUT: true; the input reads as it did. -/
def cdtChildSpec : ChangeSpec := { name := "cdtChild", fn := fun _ => fun
  | [d1, d2, d3] => { results := [.lit (.bool true)], args := [d1, d2, d3] }
  | _ => none }
def cdtChildRow : OpenClaim := { program := "ytiabloiglmnfpaa", sum := "7deded6f94f1a7c8a4324a385406a4d5bfe1a1766a6dd8dbe9b0a0e9a0d42a74", func := "viceroy/viceroylaw13.CdtChild", spec := "cdtChild", unfollowed := true, recurses := true, plainKeys := false, apart := false }
def CdtChildSaid : Prop := cdtChildRow.holds Try.pinned (OpenSpec.ofChange cdtChildSpec)

/-- ITS FALSE NEIGHBOUR: 'it returns false'. Refute it at one input. -/
def cdtChildWrong : ChangeSpec := { name := "cdtChild", fn := fun _ => fun
  | [d1, d2, d3] => { results := [.lit (.bool false)], args := [d1, d2, d3] }
  | _ => none }
def CdtChildWrongFalsely : Prop := cdtChildRow.holds Try.pinned (OpenSpec.ofChange cdtChildWrong)

/-- 'viceroylaw13.CdtNames': WHATEVER THE INPUT: true; the input reads as it did. -/
def cdtNamesSpec : ChangeSpec := { name := "cdtNames", fn := fun _ => fun
  | [d1, d2, d3] => { results := [.lit (.bool true)], args := [d1, d2, d3] }
  | _ => none }
def cdtNamesRow : OpenClaim := { program := "ytiabloiglmnfpaa", sum := "7deded6f94f1a7c8a4324a385406a4d5bfe1a1766a6dd8dbe9b0a0e9a0d42a74", func := "viceroy/viceroylaw13.CdtNames", spec := "cdtNames", unfollowed := true, recurses := true, plainKeys := false, apart := false }
def CdtNamesSaid : Prop := cdtNamesRow.holds Try.pinned (OpenSpec.ofChange cdtNamesSpec)

/-- ITS FALSE NEIGHBOUR: 'it returns false'. Refute it at one input. -/
def cdtNamesWrong : ChangeSpec := { name := "cdtNames", fn := fun _ => fun
  | [d1, d2, d3] => { results := [.lit (.bool false)], args := [d1, d2, d3] }
  | _ => none }
def CdtNamesWrongFalsely : Prop := cdtNamesRow.holds Try.pinned (OpenSpec.ofChange cdtNamesWrong)

/- THE SECOND FORM. 'bulk': how many values and letters a reading holds, each counted each time it is reached (what is shared counts as often as it is met; a slice's spare places count too). A statement '..UptoSaid' is the law's where the arguments, and the package variables that the reading takes, are together of bulk at most 1048576: NARROWER than '..Said'. Prove '..Said' where nothing that the law and all that it calls make is longer than what came in: it says more and counts as full. Else prove '..UptoSaid'. A law counts once. -/
mutual
def uptoBulk {H : Type} : DataW H → Nat
  | .lit (.string bytes) => bytes.length + 1
  | .lit _ => 1
  | .nil => 1
  | .ptr d => uptoBulk d + 1
  | .slice elems spare => uptoBulkAll elems + uptoBulkAll spare + 1
  | .agg parts => uptoBulkAll parts + 1
  | .iface _ d => uptoBulk d + 1
  | .map entries => uptoBulkEntries entries + 1
  | .held _ => 1
def uptoBulkAll {H : Type} : List (DataW H) → Nat
  | [] => 0
  | d :: r => uptoBulk d + uptoBulkAll r
def uptoBulkEntries {H : Type} : List (Lit × DataW H) → Nat
  | [] => 0
  | x :: r => uptoBulkEntry x + uptoBulkEntries r
def uptoBulkEntry {H : Type} : Lit × DataW H → Nat
  | (.string bytes, d) => bytes.length + uptoBulk d + 1
  | (_, d) => uptoBulk d + 1
 end
def uptoSmall : (H : Type) → List (DataW H) → Bool := fun _ ds => decide (uptoBulkAll ds ≤ 1048576)
def OpenSpec.upto (s : _root_.Go.ChangeSpec) : _root_.Go.OpenSpec := { _root_.Go.OpenSpec.ofChange s with cond := some uptoSmall }

/-- 'viceroylaw13.CdtPlays', WHERE WHAT IT READS IS OF BULK AT MOST 1048576: true; the input reads as it did. -/
def cdtPlaysUptoRow : OpenClaim := { program := "ytiabloiglmnfpaa", sum := "7deded6f94f1a7c8a4324a385406a4d5bfe1a1766a6dd8dbe9b0a0e9a0d42a74", func := "viceroy/viceroylaw13.CdtPlays", spec := "cdtPlays", unfollowed := true, recurses := true, plainKeys := false, apart := false, narrowed := true }
def CdtPlaysUptoSaid : Prop := cdtPlaysUptoRow.holds Try.pinned (OpenSpec.upto cdtPlaysSpec)

/-- 'viceroylaw13.CdtForest', WHERE WHAT IT READS IS OF BULK AT MOST 1048576: true; the input reads as it did. -/
def cdtForestUptoRow : OpenClaim := { program := "ytiabloiglmnfpaa", sum := "7deded6f94f1a7c8a4324a385406a4d5bfe1a1766a6dd8dbe9b0a0e9a0d42a74", func := "viceroy/viceroylaw13.CdtForest", spec := "cdtForest", unfollowed := true, recurses := true, plainKeys := false, apart := false, narrowed := true }
def CdtForestUptoSaid : Prop := cdtForestUptoRow.holds Try.pinned (OpenSpec.upto cdtForestSpec)

/-- 'viceroylaw13.CdtBack', WHERE WHAT IT READS IS OF BULK AT MOST 1048576: true; the input reads as it did. -/
def cdtBackUptoRow : OpenClaim := { program := "ytiabloiglmnfpaa", sum := "7deded6f94f1a7c8a4324a385406a4d5bfe1a1766a6dd8dbe9b0a0e9a0d42a74", func := "viceroy/viceroylaw13.CdtBack", spec := "cdtBack", unfollowed := true, recurses := true, plainKeys := false, apart := false, narrowed := true }
def CdtBackUptoSaid : Prop := cdtBackUptoRow.holds Try.pinned (OpenSpec.upto cdtBackSpec)

/-- 'viceroylaw13.CdtFamily', WHERE WHAT IT READS IS OF BULK AT MOST 1048576: true; the input reads as it did. -/
def cdtFamilyUptoRow : OpenClaim := { program := "ytiabloiglmnfpaa", sum := "7deded6f94f1a7c8a4324a385406a4d5bfe1a1766a6dd8dbe9b0a0e9a0d42a74", func := "viceroy/viceroylaw13.CdtFamily", spec := "cdtFamily", unfollowed := true, recurses := true, plainKeys := false, apart := false, narrowed := true }
def CdtFamilyUptoSaid : Prop := cdtFamilyUptoRow.holds Try.pinned (OpenSpec.upto cdtFamilySpec)

/-- 'viceroylaw13.CdtChild', WHERE WHAT IT READS IS OF BULK AT MOST 1048576: true; the input reads as it did. -/
def cdtChildUptoRow : OpenClaim := { program := "ytiabloiglmnfpaa", sum := "7deded6f94f1a7c8a4324a385406a4d5bfe1a1766a6dd8dbe9b0a0e9a0d42a74", func := "viceroy/viceroylaw13.CdtChild", spec := "cdtChild", unfollowed := true, recurses := true, plainKeys := false, apart := false, narrowed := true }
def CdtChildUptoSaid : Prop := cdtChildUptoRow.holds Try.pinned (OpenSpec.upto cdtChildSpec)

/-- 'viceroylaw13.CdtNames', WHERE WHAT IT READS IS OF BULK AT MOST 1048576: true; the input reads as it did. -/
def cdtNamesUptoRow : OpenClaim := { program := "ytiabloiglmnfpaa", sum := "7deded6f94f1a7c8a4324a385406a4d5bfe1a1766a6dd8dbe9b0a0e9a0d42a74", func := "viceroy/viceroylaw13.CdtNames", spec := "cdtNames", unfollowed := true, recurses := true, plainKeys := false, apart := false, narrowed := true }
def CdtNamesUptoSaid : Prop := cdtNamesUptoRow.holds Try.pinned (OpenSpec.upto cdtNamesSpec)

end Rows
end Go.Proofs.Ytiabloiglmnfpaa
