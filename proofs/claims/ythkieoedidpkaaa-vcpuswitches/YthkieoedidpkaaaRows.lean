/-
  No cell of these rows narrows 'for every input' (looked for: loops, veiled, ifaces, maps, wideKeys, modest, calm, conditions, laid).
  DERIVED. THE GIVEN ROWS OF THIS SEAT. 2 by the template 'for every input the law returns true; each argument reads behind the call as it read before'; 0 by the template 'total and deterministic' (their statements: YthkieoedidpkaaaTotals.lean).
  GIVEN WITH THE SEED: the statements are not yours to turn. If you find one false, say at which input.
  Laid BY PROGRAM, IN A SANDBOX (cutbox-rows.mjs): the forced cells as the released guide's own fill.sh prints them over the translation 5ef23d17764070ff… (all of the seat's roots in one cut). By AI agents, Wed Nov 11 2026. No macro, syntax, notation, axiom, sorry.
-/
import Derived.Test.YthkieoedidpkaaaChecked
import GoSem.Claim
import GoSem.ClaimJoined
import GoSem.ClaimMapViews
import Derived.JoinedTies
import Derived.KernelRfl
namespace Go.Proofs.Ythkieoedidpkaaa
/- THE CELL 'sum', in the pinned program and in every row, IS THE sha256 OF THE DUMP (.gsa) THAT YthkieoedidpkaaaProg.lean LOADS. Nothing in Lean hashes anything: it is a label: what it is worth is what the hold of that sum in a sandbox is worth. -/
noncomputable def Try.pinned : Pinned := { name := "ythkieoedidpkaaa", sum := "5ef23d17764070ff033770b75e48d6079f5632110c613679ce92762e1aa9aef2", checked := Try.checked }
namespace Rows
def none {H : Type} : Left H := { results := [], args := [] }

/-- 'viceroylaw18.VcpuPlays': WHATEVER THE INPUT: true; the input reads as it did. -/
def vcpuPlaysSpec : ChangeSpec := { name := "vcpuPlays", fn := fun _ => fun
  | [d1, d2] => { results := [.lit (.bool true)], args := [d1, d2] }
  | _ => none }
def vcpuPlaysRow : OpenClaim := { program := "ythkieoedidpkaaa", sum := "5ef23d17764070ff033770b75e48d6079f5632110c613679ce92762e1aa9aef2", func := "viceroy/viceroylaw18.VcpuPlays", spec := "vcpuPlays", unfollowed := true, recurses := true, apart := false }
def VcpuPlaysSaid : Prop := vcpuPlaysRow.holds Try.pinned (OpenSpec.ofChange vcpuPlaysSpec)

/-- ITS FALSE NEIGHBOUR: 'it returns false'. Refute it at one input. -/
def vcpuPlaysWrong : ChangeSpec := { name := "vcpuPlays", fn := fun _ => fun
  | [d1, d2] => { results := [.lit (.bool false)], args := [d1, d2] }
  | _ => none }
def VcpuPlaysWrongFalsely : Prop := vcpuPlaysRow.holds Try.pinned (OpenSpec.ofChange vcpuPlaysWrong)

/-- 'viceroylaw18.VcpuSwitches': WHATEVER THE INPUT: true; the input reads as it did. -/
def vcpuSwitchesSpec : ChangeSpec := { name := "vcpuSwitches", fn := fun _ => fun
  | [d1, d2] => { results := [.lit (.bool true)], args := [d1, d2] }
  | _ => none }
def vcpuSwitchesRow : OpenClaim := { program := "ythkieoedidpkaaa", sum := "5ef23d17764070ff033770b75e48d6079f5632110c613679ce92762e1aa9aef2", func := "viceroy/viceroylaw18.VcpuSwitches", spec := "vcpuSwitches", unfollowed := true, recurses := true, apart := false }
def VcpuSwitchesSaid : Prop := vcpuSwitchesRow.holds Try.pinned (OpenSpec.ofChange vcpuSwitchesSpec)

/-- ITS FALSE NEIGHBOUR: 'it returns false'. Refute it at one input. -/
def vcpuSwitchesWrong : ChangeSpec := { name := "vcpuSwitches", fn := fun _ => fun
  | [d1, d2] => { results := [.lit (.bool false)], args := [d1, d2] }
  | _ => none }
def VcpuSwitchesWrongFalsely : Prop := vcpuSwitchesRow.holds Try.pinned (OpenSpec.ofChange vcpuSwitchesWrong)

/- THE SECOND FORM. 'bulk': how many values and letters a reading holds, each counted each time it is reached (what is shared counts as often as it is met; a slice's spare places count too). A statement '..UptoSaid' is the law's where the arguments, and the package variables that the reading takes, are together of bulk at most 1048576: NARROWER than '..Said'. Prove '..Said' where nothing that the law and all that it calls make is longer than what came in: it says more and counts as full. Else prove '..UptoSaid'. A law counts once. -/
mutual
def uptoBulk {H : Type} : DataW H → Nat
  | .lit (.string bytes) => bytes.length + 1
  | .lit _ => 1
  | .nil => 1
  | .ptr d => uptoBulk d + 1
  | .slice elems spare => uptoBulkAll elems + uptoBulkAll spare + 1
  | .agg parts => uptoBulkAll parts + 1
  | .iface _ d => uptoBulk d + 1
  | .map entries => uptoBulkEntries entries + 1
  | .held _ => 1
def uptoBulkAll {H : Type} : List (DataW H) → Nat
  | [] => 0
  | d :: r => uptoBulk d + uptoBulkAll r
def uptoBulkEntries {H : Type} : List (Lit × DataW H) → Nat
  | [] => 0
  | x :: r => uptoBulkEntry x + uptoBulkEntries r
def uptoBulkEntry {H : Type} : Lit × DataW H → Nat
  | (.string bytes, d) => bytes.length + uptoBulk d + 1
  | (_, d) => uptoBulk d + 1
 end
def uptoSmall : (H : Type) → List (DataW H) → Bool := fun _ ds => decide (uptoBulkAll ds ≤ 1048576)
def OpenSpec.upto (s : _root_.Go.ChangeSpec) : _root_.Go.OpenSpec := { _root_.Go.OpenSpec.ofChange s with cond := some uptoSmall }

/-- 'viceroylaw18.VcpuPlays', WHERE WHAT IT READS IS OF BULK AT MOST 1048576: true; the input reads as it did. -/
def vcpuPlaysUptoRow : OpenClaim := { program := "ythkieoedidpkaaa", sum := "5ef23d17764070ff033770b75e48d6079f5632110c613679ce92762e1aa9aef2", func := "viceroy/viceroylaw18.VcpuPlays", spec := "vcpuPlays", unfollowed := true, recurses := true, apart := false, narrowed := true }
def VcpuPlaysUptoSaid : Prop := vcpuPlaysUptoRow.holds Try.pinned (OpenSpec.upto vcpuPlaysSpec)

/-- 'viceroylaw18.VcpuSwitches', WHERE WHAT IT READS IS OF BULK AT MOST 1048576: true; the input reads as it did. -/
def vcpuSwitchesUptoRow : OpenClaim := { program := "ythkieoedidpkaaa", sum := "5ef23d17764070ff033770b75e48d6079f5632110c613679ce92762e1aa9aef2", func := "viceroy/viceroylaw18.VcpuSwitches", spec := "vcpuSwitches", unfollowed := true, recurses := true, apart := false, narrowed := true }
def VcpuSwitchesUptoSaid : Prop := vcpuSwitchesUptoRow.holds Try.pinned (OpenSpec.upto vcpuSwitchesSpec)

end Rows
end Go.Proofs.Ythkieoedidpkaaa
