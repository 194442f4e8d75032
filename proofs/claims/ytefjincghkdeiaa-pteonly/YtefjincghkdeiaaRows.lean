/-
  No cell of these rows narrows 'for every input' (looked for: loops, veiled, ifaces, maps, wideKeys, modest, calm, conditions, laid).
  DERIVED. THE GIVEN ROWS OF THIS SEAT. 6 by the template 'for every input the law returns true; each argument reads behind the call as it read before'; 0 by the template 'total and deterministic' (their statements: YtefjincghkdeiaaTotals.lean).
  GIVEN WITH THE SEED: the statements are not yours to turn. If you find one false, say at which input.
  Laid BY PROGRAM, IN A SANDBOX (cutbox-rows.mjs): the forced cells as the released guide's own fill.sh prints them over the translation 612b27b3775766e0… (all of the seat's roots in one cut). By AI agents, Wed Nov 11 2026. No macro, syntax, notation, axiom, sorry.
-/
import Derived.Test.YtefjincghkdeiaaChecked
import GoSem.Claim
import GoSem.ClaimJoined
import GoSem.ClaimMapViews
import Derived.JoinedTies
import Derived.KernelRfl
namespace Go.Proofs.Ytefjincghkdeiaa
/- THE CELL 'sum', in the pinned program and in every row, IS THE sha256 OF THE DUMP (.gsa) THAT YtefjincghkdeiaaProg.lean LOADS. Nothing in Lean hashes anything: it is a label: what it is worth is what the hold of that sum in a sandbox is worth. -/
noncomputable def Try.pinned : Pinned := { name := "ytefjincghkdeiaa", sum := "612b27b3775766e0b874cb2ff3ac27767e111a6b91d7c4534eceea156c3aa7d4", checked := Try.checked }
namespace Rows
def none {H : Type} : Left H := { results := [], args := [] }

/-- 'viceroylaw02.PteWords': WHATEVER THE INPUT: true; the input reads as it did. -/
def pteWordsSpec : ChangeSpec := { name := "pteWords", fn := fun _ => fun
  | [d1, d2, d3, d4] => { results := [.lit (.bool true)], args := [d1, d2, d3, d4] }
  | _ => none }
def pteWordsRow : OpenClaim := { program := "ytefjincghkdeiaa", sum := "612b27b3775766e0b874cb2ff3ac27767e111a6b91d7c4534eceea156c3aa7d4", func := "viceroy/viceroylaw02.PteWords", spec := "pteWords", apart := false }
def PteWordsSaid : Prop := pteWordsRow.holds Try.pinned (OpenSpec.ofChange pteWordsSpec)

/-- ITS FALSE NEIGHBOUR: 'it returns false'. Refute it at one input. -/
def pteWordsWrong : ChangeSpec := { name := "pteWords", fn := fun _ => fun
  | [d1, d2, d3, d4] => { results := [.lit (.bool false)], args := [d1, d2, d3, d4] }
  | _ => none }
def PteWordsWrongFalsely : Prop := pteWordsRow.holds Try.pinned (OpenSpec.ofChange pteWordsWrong)

/-- 'viceroylaw02.PteBack': WHATEVER THE INPUT: true; the input reads as it did. -/
def pteBackSpec : ChangeSpec := { name := "pteBack", fn := fun _ => fun
  | [d1, d2] => { results := [.lit (.bool true)], args := [d1, d2] }
  | _ => none }
def pteBackRow : OpenClaim := { program := "ytefjincghkdeiaa", sum := "612b27b3775766e0b874cb2ff3ac27767e111a6b91d7c4534eceea156c3aa7d4", func := "viceroy/viceroylaw02.PteBack", spec := "pteBack", apart := false }
def PteBackSaid : Prop := pteBackRow.holds Try.pinned (OpenSpec.ofChange pteBackSpec)

/-- ITS FALSE NEIGHBOUR: 'it returns false'. Refute it at one input. -/
def pteBackWrong : ChangeSpec := { name := "pteBack", fn := fun _ => fun
  | [d1, d2] => { results := [.lit (.bool false)], args := [d1, d2] }
  | _ => none }
def PteBackWrongFalsely : Prop := pteBackRow.holds Try.pinned (OpenSpec.ofChange pteBackWrong)

/-- 'viceroylaw02.PteAll': WHATEVER THE INPUT: true; the input reads as it did. -/
def pteAllSpec : ChangeSpec := { name := "pteAll", fn := fun _ => fun
  | [d] => { results := [.lit (.bool true)], args := [d] }
  | _ => none }
def pteAllRow : OpenClaim := { program := "ytefjincghkdeiaa", sum := "612b27b3775766e0b874cb2ff3ac27767e111a6b91d7c4534eceea156c3aa7d4", func := "viceroy/viceroylaw02.PteAll", spec := "pteAll", apart := false }
def PteAllSaid : Prop := pteAllRow.holds Try.pinned (OpenSpec.ofChange pteAllSpec)

/-- ITS FALSE NEIGHBOUR: 'it returns false'. Refute it at one input. -/
def pteAllWrong : ChangeSpec := { name := "pteAll", fn := fun _ => fun
  | [d] => { results := [.lit (.bool false)], args := [d] }
  | _ => none }
def PteAllWrongFalsely : Prop := pteAllRow.holds Try.pinned (OpenSpec.ofChange pteAllWrong)

/-- 'viceroylaw02.PtePlays': WHATEVER THE INPUT: true; the input reads as it did. -/
def ptePlaysSpec : ChangeSpec := { name := "ptePlays", fn := fun _ => fun
  | [d1, d2] => { results := [.lit (.bool true)], args := [d1, d2] }
  | _ => none }
def ptePlaysRow : OpenClaim := { program := "ytefjincghkdeiaa", sum := "612b27b3775766e0b874cb2ff3ac27767e111a6b91d7c4534eceea156c3aa7d4", func := "viceroy/viceroylaw02.PtePlays", spec := "ptePlays", apart := false }
def PtePlaysSaid : Prop := ptePlaysRow.holds Try.pinned (OpenSpec.ofChange ptePlaysSpec)

/-- ITS FALSE NEIGHBOUR: 'it returns false'. Refute it at one input. -/
def ptePlaysWrong : ChangeSpec := { name := "ptePlays", fn := fun _ => fun
  | [d1, d2] => { results := [.lit (.bool false)], args := [d1, d2] }
  | _ => none }
def PtePlaysWrongFalsely : Prop := ptePlaysRow.holds Try.pinned (OpenSpec.ofChange ptePlaysWrong)

/-- 'viceroylaw02.PteOnly': WHATEVER THE INPUT: true; the input reads as it did. -/
def pteOnlySpec : ChangeSpec := { name := "pteOnly", fn := fun _ => fun
  | [d1, d2, d3, d4] => { results := [.lit (.bool true)], args := [d1, d2, d3, d4] }
  | _ => none }
def pteOnlyRow : OpenClaim := { program := "ytefjincghkdeiaa", sum := "612b27b3775766e0b874cb2ff3ac27767e111a6b91d7c4534eceea156c3aa7d4", func := "viceroy/viceroylaw02.PteOnly", spec := "pteOnly", apart := false }
def PteOnlySaid : Prop := pteOnlyRow.holds Try.pinned (OpenSpec.ofChange pteOnlySpec)

/-- ITS FALSE NEIGHBOUR: 'it returns false'. Refute it at one input. -/
def pteOnlyWrong : ChangeSpec := { name := "pteOnly", fn := fun _ => fun
  | [d1, d2, d3, d4] => { results := [.lit (.bool false)], args := [d1, d2, d3, d4] }
  | _ => none }
def PteOnlyWrongFalsely : Prop := pteOnlyRow.holds Try.pinned (OpenSpec.ofChange pteOnlyWrong)

/-- 'viceroylaw02.PteIndices': WHATEVER THE INPUT: true; the input reads as it did. -/
def pteIndicesSpec : ChangeSpec := { name := "pteIndices", fn := fun _ => fun
  | [d1, d2] => { results := [.lit (.bool true)], args := [d1, d2] }
  | _ => none }
def pteIndicesRow : OpenClaim := { program := "ytefjincghkdeiaa", sum := "612b27b3775766e0b874cb2ff3ac27767e111a6b91d7c4534eceea156c3aa7d4", func := "viceroy/viceroylaw02.PteIndices", spec := "pteIndices", apart := false }
def PteIndicesSaid : Prop := pteIndicesRow.holds Try.pinned (OpenSpec.ofChange pteIndicesSpec)

/-- ITS FALSE NEIGHBOUR: 'it returns false'. Refute it at one input. -/
def pteIndicesWrong : ChangeSpec := { name := "pteIndices", fn := fun _ => fun
  | [d1, d2] => { results := [.lit (.bool false)], args := [d1, d2] }
  | _ => none }
def PteIndicesWrongFalsely : Prop := pteIndicesRow.holds Try.pinned (OpenSpec.ofChange pteIndicesWrong)

/- THE SECOND FORM. 'bulk': how many values and letters a reading holds, each counted each time it is reached (what is shared counts as often as it is met; a slice's spare places count too). A statement '..UptoSaid' is the law's where the arguments, and the package variables that the reading takes, are together of bulk at most 1048576: NARROWER than '..Said'. Prove '..Said' where nothing that the law and all that it calls make is longer than what came in: it says more and counts as full. Else prove '..UptoSaid'. A law counts once. -/
mutual
def uptoBulk {H : Type} : DataW H → Nat
  | .lit (.string bytes) => bytes.length + 1
  | .lit _ => 1
  | .nil => 1
  | .ptr d => uptoBulk d + 1
  | .slice elems spare => uptoBulkAll elems + uptoBulkAll spare + 1
  | .agg parts => uptoBulkAll parts + 1
  | .iface _ d => uptoBulk d + 1
  | .map entries => uptoBulkEntries entries + 1
  | .held _ => 1
def uptoBulkAll {H : Type} : List (DataW H) → Nat
  | [] => 0
  | d :: r => uptoBulk d + uptoBulkAll r
def uptoBulkEntries {H : Type} : List (Lit × DataW H) → Nat
  | [] => 0
  | x :: r => uptoBulkEntry x + uptoBulkEntries r
def uptoBulkEntry {H : Type} : Lit × DataW H → Nat
  | (.string bytes, d) => bytes.length + uptoBulk d + 1
  | (_, d) => uptoBulk d + 1
 end
def uptoSmall : (H : Type) → List (DataW H) → Bool := fun _ ds => decide (uptoBulkAll ds ≤ 1048576)
def OpenSpec.upto (s : _root_.Go.ChangeSpec) : _root_.Go.OpenSpec := { _root_.Go.OpenSpec.ofChange s with cond := some uptoSmall }

/-- 'viceroylaw02.PteWords', WHERE WHAT IT READS IS OF BULK AT MOST 1048576: true; the input reads as it did. -/
def pteWordsUptoRow : OpenClaim := { program := "ytefjincghkdeiaa", sum := "612b27b3775766e0b874cb2ff3ac27767e111a6b91d7c4534eceea156c3aa7d4", func := "viceroy/viceroylaw02.PteWords", spec := "pteWords", apart := false, narrowed := true }
def PteWordsUptoSaid : Prop := pteWordsUptoRow.holds Try.pinned (OpenSpec.upto pteWordsSpec)

/-- 'viceroylaw02.PteBack', WHERE WHAT IT READS IS OF BULK AT MOST 1048576: true; the input reads as it did. -/
def pteBackUptoRow : OpenClaim := { program := "ytefjincghkdeiaa", sum := "612b27b3775766e0b874cb2ff3ac27767e111a6b91d7c4534eceea156c3aa7d4", func := "viceroy/viceroylaw02.PteBack", spec := "pteBack", apart := false, narrowed := true }
def PteBackUptoSaid : Prop := pteBackUptoRow.holds Try.pinned (OpenSpec.upto pteBackSpec)

/-- 'viceroylaw02.PteAll', WHERE WHAT IT READS IS OF BULK AT MOST 1048576: true; the input reads as it did. -/
def pteAllUptoRow : OpenClaim := { program := "ytefjincghkdeiaa", sum := "612b27b3775766e0b874cb2ff3ac27767e111a6b91d7c4534eceea156c3aa7d4", func := "viceroy/viceroylaw02.PteAll", spec := "pteAll", apart := false, narrowed := true }
def PteAllUptoSaid : Prop := pteAllUptoRow.holds Try.pinned (OpenSpec.upto pteAllSpec)

/-- 'viceroylaw02.PtePlays', WHERE WHAT IT READS IS OF BULK AT MOST 1048576: true; the input reads as it did. -/
def ptePlaysUptoRow : OpenClaim := { program := "ytefjincghkdeiaa", sum := "612b27b3775766e0b874cb2ff3ac27767e111a6b91d7c4534eceea156c3aa7d4", func := "viceroy/viceroylaw02.PtePlays", spec := "ptePlays", apart := false, narrowed := true }
def PtePlaysUptoSaid : Prop := ptePlaysUptoRow.holds Try.pinned (OpenSpec.upto ptePlaysSpec)

/-- 'viceroylaw02.PteOnly', WHERE WHAT IT READS IS OF BULK AT MOST 1048576: true; the input reads as it did. -/
def pteOnlyUptoRow : OpenClaim := { program := "ytefjincghkdeiaa", sum := "612b27b3775766e0b874cb2ff3ac27767e111a6b91d7c4534eceea156c3aa7d4", func := "viceroy/viceroylaw02.PteOnly", spec := "pteOnly", apart := false, narrowed := true }
def PteOnlyUptoSaid : Prop := pteOnlyUptoRow.holds Try.pinned (OpenSpec.upto pteOnlySpec)

/-- 'viceroylaw02.PteIndices', WHERE WHAT IT READS IS OF BULK AT MOST 1048576: true; the input reads as it did. -/
def pteIndicesUptoRow : OpenClaim := { program := "ytefjincghkdeiaa", sum := "612b27b3775766e0b874cb2ff3ac27767e111a6b91d7c4534eceea156c3aa7d4", func := "viceroy/viceroylaw02.PteIndices", spec := "pteIndices", apart := false, narrowed := true }
def PteIndicesUptoSaid : Prop := pteIndicesUptoRow.holds Try.pinned (OpenSpec.upto pteIndicesSpec)

end Rows
end Go.Proofs.Ytefjincghkdeiaa
