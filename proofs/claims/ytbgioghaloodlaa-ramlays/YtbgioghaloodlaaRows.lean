/-
  No cell of these rows narrows 'for every input' (looked for: loops, veiled, ifaces, maps, wideKeys, modest, calm, conditions, laid).
  DERIVED. THE GIVEN ROWS OF THIS SEAT. 5 by the template 'for every input the law returns true; each argument reads behind the call as it read before'; 0 by the template 'total and deterministic' (their statements: YtbgioghaloodlaaTotals.lean).
  GIVEN WITH THE SEED: the statements are not yours to turn. If you find one false, say at which input.
  Laid BY PROGRAM, IN A SANDBOX (cutbox-rows.mjs): the forced cells as the released guide's own fill.sh prints them over the translation 660a38f30d2ef73b… (all of the seat's roots in one cut). By AI agents, Wed Nov 11 2026. No macro, syntax, notation, axiom, sorry.
-/
import Derived.Test.YtbgioghaloodlaaChecked
import GoSem.Claim
import GoSem.ClaimJoined
import GoSem.ClaimMapViews
import Derived.JoinedTies
import Derived.KernelRfl
namespace Go.Proofs.Ytbgioghaloodlaa
/- THE CELL 'sum', in the pinned program and in every row, IS THE sha256 OF THE DUMP (.gsa) THAT YtbgioghaloodlaaProg.lean LOADS. Nothing in Lean hashes anything: it is a label: what it is worth is what the hold of that sum in a sandbox is worth. -/
noncomputable def Try.pinned : Pinned := { name := "ytbgioghaloodlaa", sum := "660a38f30d2ef73be843eda2eba9ec3fdf3a35fe7de573a0a238c59c7efe4791", checked := Try.checked }
namespace Rows
def none {H : Type} : Left H := { results := [], args := [] }

/-- 'viceroylaw01.RamPlays': WHATEVER THE INPUT: true; the input reads as it did. -/
def ramPlaysSpec : ChangeSpec := { name := "ramPlays", fn := fun _ => fun
  | [d1, d2] => { results := [.lit (.bool true)], args := [d1, d2] }
  | _ => none }
def ramPlaysRow : OpenClaim := { program := "ytbgioghaloodlaa", sum := "660a38f30d2ef73be843eda2eba9ec3fdf3a35fe7de573a0a238c59c7efe4791", func := "viceroy/viceroylaw01.RamPlays", spec := "ramPlays", apart := false }
def RamPlaysSaid : Prop := ramPlaysRow.holds Try.pinned (OpenSpec.ofChange ramPlaysSpec)

/-- ITS FALSE NEIGHBOUR: 'it returns false'. Refute it at one input. -/
def ramPlaysWrong : ChangeSpec := { name := "ramPlays", fn := fun _ => fun
  | [d1, d2] => { results := [.lit (.bool false)], args := [d1, d2] }
  | _ => none }
def RamPlaysWrongFalsely : Prop := ramPlaysRow.holds Try.pinned (OpenSpec.ofChange ramPlaysWrong)

/-- 'viceroylaw01.RamBack': WHATEVER THE INPUT: true; the input reads as it did. -/
def ramBackSpec : ChangeSpec := { name := "ramBack", fn := fun _ => fun
  | [d1, d2, d3, d4] => { results := [.lit (.bool true)], args := [d1, d2, d3, d4] }
  | _ => none }
def ramBackRow : OpenClaim := { program := "ytbgioghaloodlaa", sum := "660a38f30d2ef73be843eda2eba9ec3fdf3a35fe7de573a0a238c59c7efe4791", func := "viceroy/viceroylaw01.RamBack", spec := "ramBack", apart := false }
def RamBackSaid : Prop := ramBackRow.holds Try.pinned (OpenSpec.ofChange ramBackSpec)

/-- ITS FALSE NEIGHBOUR: 'it returns false'. Refute it at one input. -/
def ramBackWrong : ChangeSpec := { name := "ramBack", fn := fun _ => fun
  | [d1, d2, d3, d4] => { results := [.lit (.bool false)], args := [d1, d2, d3, d4] }
  | _ => none }
def RamBackWrongFalsely : Prop := ramBackRow.holds Try.pinned (OpenSpec.ofChange ramBackWrong)

/-- 'viceroylaw01.RamApart': WHATEVER THE INPUT: true; the input reads as it did. -/
def ramApartSpec : ChangeSpec := { name := "ramApart", fn := fun _ => fun
  | [d1, d2, d3, d4] => { results := [.lit (.bool true)], args := [d1, d2, d3, d4] }
  | _ => none }
def ramApartRow : OpenClaim := { program := "ytbgioghaloodlaa", sum := "660a38f30d2ef73be843eda2eba9ec3fdf3a35fe7de573a0a238c59c7efe4791", func := "viceroy/viceroylaw01.RamApart", spec := "ramApart", apart := false }
def RamApartSaid : Prop := ramApartRow.holds Try.pinned (OpenSpec.ofChange ramApartSpec)

/-- ITS FALSE NEIGHBOUR: 'it returns false'. Refute it at one input. -/
def ramApartWrong : ChangeSpec := { name := "ramApart", fn := fun _ => fun
  | [d1, d2, d3, d4] => { results := [.lit (.bool false)], args := [d1, d2, d3, d4] }
  | _ => none }
def RamApartWrongFalsely : Prop := ramApartRow.holds Try.pinned (OpenSpec.ofChange ramApartWrong)

/-- 'viceroylaw01.RamHalves': WHATEVER THE INPUT: true; the input reads as it did. -/
def ramHalvesSpec : ChangeSpec := { name := "ramHalves", fn := fun _ => fun
  | [d1, d2] => { results := [.lit (.bool true)], args := [d1, d2] }
  | _ => none }
def ramHalvesRow : OpenClaim := { program := "ytbgioghaloodlaa", sum := "660a38f30d2ef73be843eda2eba9ec3fdf3a35fe7de573a0a238c59c7efe4791", func := "viceroy/viceroylaw01.RamHalves", spec := "ramHalves", apart := false }
def RamHalvesSaid : Prop := ramHalvesRow.holds Try.pinned (OpenSpec.ofChange ramHalvesSpec)

/-- ITS FALSE NEIGHBOUR: 'it returns false'. Refute it at one input. -/
def ramHalvesWrong : ChangeSpec := { name := "ramHalves", fn := fun _ => fun
  | [d1, d2] => { results := [.lit (.bool false)], args := [d1, d2] }
  | _ => none }
def RamHalvesWrongFalsely : Prop := ramHalvesRow.holds Try.pinned (OpenSpec.ofChange ramHalvesWrong)

/-- 'viceroylaw01.RamLays': WHATEVER THE INPUT: true; the input reads as it did. -/
def ramLaysSpec : ChangeSpec := { name := "ramLays", fn := fun _ => fun
  | [d1, d2, d3, d4] => { results := [.lit (.bool true)], args := [d1, d2, d3, d4] }
  | _ => none }
def ramLaysRow : OpenClaim := { program := "ytbgioghaloodlaa", sum := "660a38f30d2ef73be843eda2eba9ec3fdf3a35fe7de573a0a238c59c7efe4791", func := "viceroy/viceroylaw01.RamLays", spec := "ramLays", apart := false }
def RamLaysSaid : Prop := ramLaysRow.holds Try.pinned (OpenSpec.ofChange ramLaysSpec)

/-- ITS FALSE NEIGHBOUR: 'it returns false'. Refute it at one input. -/
def ramLaysWrong : ChangeSpec := { name := "ramLays", fn := fun _ => fun
  | [d1, d2, d3, d4] => { results := [.lit (.bool false)], args := [d1, d2, d3, d4] }
  | _ => none }
def RamLaysWrongFalsely : Prop := ramLaysRow.holds Try.pinned (OpenSpec.ofChange ramLaysWrong)

/- THE SECOND FORM. 'bulk': how many values and letters a reading holds, each counted each time it is reached (what is shared counts as often as it is met; a slice's spare places count too). A statement '..UptoSaid' is the law's where the arguments, and the package variables that the reading takes, are together of bulk at most 1048576: NARROWER than '..Said'. Prove '..Said' where nothing that the law and all that it calls make is longer than what came in: it says more and counts as full. Else prove '..UptoSaid'. A law counts once. -/
mutual
def uptoBulk {H : Type} : DataW H → Nat
  | .lit (.string bytes) => bytes.length + 1
  | .lit _ => 1
  | .nil => 1
  | .ptr d => uptoBulk d + 1
  | .slice elems spare => uptoBulkAll elems + uptoBulkAll spare + 1
  | .agg parts => uptoBulkAll parts + 1
  | .iface _ d => uptoBulk d + 1
  | .map entries => uptoBulkEntries entries + 1
  | .held _ => 1
def uptoBulkAll {H : Type} : List (DataW H) → Nat
  | [] => 0
  | d :: r => uptoBulk d + uptoBulkAll r
def uptoBulkEntries {H : Type} : List (Lit × DataW H) → Nat
  | [] => 0
  | x :: r => uptoBulkEntry x + uptoBulkEntries r
def uptoBulkEntry {H : Type} : Lit × DataW H → Nat
  | (.string bytes, d) => bytes.length + uptoBulk d + 1
  | (_, d) => uptoBulk d + 1
 end
def uptoSmall : (H : Type) → List (DataW H) → Bool := fun _ ds => decide (uptoBulkAll ds ≤ 1048576)
def OpenSpec.upto (s : _root_.Go.ChangeSpec) : _root_.Go.OpenSpec := { _root_.Go.OpenSpec.ofChange s with cond := some uptoSmall }

/-- 'viceroylaw01.RamPlays', WHERE WHAT IT READS IS OF BULK AT MOST 1048576: true; the input reads as it did. -/
def ramPlaysUptoRow : OpenClaim := { program := "ytbgioghaloodlaa", sum := "660a38f30d2ef73be843eda2eba9ec3fdf3a35fe7de573a0a238c59c7efe4791", func := "viceroy/viceroylaw01.RamPlays", spec := "ramPlays", apart := false, narrowed := true }
def RamPlaysUptoSaid : Prop := ramPlaysUptoRow.holds Try.pinned (OpenSpec.upto ramPlaysSpec)

/-- 'viceroylaw01.RamBack', WHERE WHAT IT READS IS OF BULK AT MOST 1048576: true; the input reads as it did. -/
def ramBackUptoRow : OpenClaim := { program := "ytbgioghaloodlaa", sum := "660a38f30d2ef73be843eda2eba9ec3fdf3a35fe7de573a0a238c59c7efe4791", func := "viceroy/viceroylaw01.RamBack", spec := "ramBack", apart := false, narrowed := true }
def RamBackUptoSaid : Prop := ramBackUptoRow.holds Try.pinned (OpenSpec.upto ramBackSpec)

/-- 'viceroylaw01.RamApart', WHERE WHAT IT READS IS OF BULK AT MOST 1048576: true; the input reads as it did. -/
def ramApartUptoRow : OpenClaim := { program := "ytbgioghaloodlaa", sum := "660a38f30d2ef73be843eda2eba9ec3fdf3a35fe7de573a0a238c59c7efe4791", func := "viceroy/viceroylaw01.RamApart", spec := "ramApart", apart := false, narrowed := true }
def RamApartUptoSaid : Prop := ramApartUptoRow.holds Try.pinned (OpenSpec.upto ramApartSpec)

/-- 'viceroylaw01.RamHalves', WHERE WHAT IT READS IS OF BULK AT MOST 1048576: true; the input reads as it did. -/
def ramHalvesUptoRow : OpenClaim := { program := "ytbgioghaloodlaa", sum := "660a38f30d2ef73be843eda2eba9ec3fdf3a35fe7de573a0a238c59c7efe4791", func := "viceroy/viceroylaw01.RamHalves", spec := "ramHalves", apart := false, narrowed := true }
def RamHalvesUptoSaid : Prop := ramHalvesUptoRow.holds Try.pinned (OpenSpec.upto ramHalvesSpec)

/-- 'viceroylaw01.RamLays', WHERE WHAT IT READS IS OF BULK AT MOST 1048576: true; the input reads as it did. -/
def ramLaysUptoRow : OpenClaim := { program := "ytbgioghaloodlaa", sum := "660a38f30d2ef73be843eda2eba9ec3fdf3a35fe7de573a0a238c59c7efe4791", func := "viceroy/viceroylaw01.RamLays", spec := "ramLays", apart := false, narrowed := true }
def RamLaysUptoSaid : Prop := ramLaysUptoRow.holds Try.pinned (OpenSpec.upto ramLaysSpec)

end Rows
end Go.Proofs.Ytbgioghaloodlaa
