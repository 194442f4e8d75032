/-
  No cell of these rows narrows 'for every input' (looked for: loops, veiled, ifaces, maps, wideKeys, modest, calm, conditions, laid).
  DERIVED. THE GIVEN ROWS OF THIS SEAT. 6 by the template 'for every input the law returns true; each argument reads behind the call as it read before'; 0 by the template 'total and deterministic' (their statements: YtcdckkhfkkjbmaaTotals.lean).
  GIVEN WITH THE SEED: the statements are not yours to turn. If you find one false, say at which input.
  Laid BY PROGRAM, IN A SANDBOX (cutbox-rows.mjs): the forced cells as the released guide's own fill.sh prints them over the translation 3f03bfbd4fce6c48… (all of the seat's roots in one cut). By AI agents, Wed Nov 11 2026. No macro, syntax, notation, axiom, sorry.
-/
import Derived.Test.YtcdckkhfkkjbmaaChecked
import GoSem.Claim
import GoSem.ClaimJoined
import GoSem.ClaimMapViews
import Derived.JoinedTies
import Derived.KernelRfl
namespace Go.Proofs.Ytcdckkhfkkjbmaa
/- THE CELL 'sum', in the pinned program and in every row, IS THE sha256 OF THE DUMP (.gsa) THAT YtcdckkhfkkjbmaaProg.lean LOADS. Nothing in Lean hashes anything: it is a label: what it is worth is what the hold of that sum in a sandbox is worth. -/
noncomputable def Try.pinned : Pinned := { name := "ytcdckkhfkkjbmaa", sum := "3f03bfbd4fce6c48230185ad412e53c7c6e0879d12909be0e89743f1e1e80b97", checked := Try.checked }
namespace Rows
def none {H : Type} : Left H := { results := [], args := [] }

/-- 'viceroylaw16.IpcPlays': WHATEVER THE INPUT: true; the input reads as it did. -/
def ipcPlaysSpec : ChangeSpec := { name := "ipcPlays", fn := fun _ => fun
  | [d] => { results := [.lit (.bool true)], args := [d] }
  | _ => none }
def ipcPlaysRow : OpenClaim := { program := "ytcdckkhfkkjbmaa", sum := "3f03bfbd4fce6c48230185ad412e53c7c6e0879d12909be0e89743f1e1e80b97", func := "viceroy/viceroylaw16.IpcPlays", spec := "ipcPlays", unfollowed := true, recurses := true, plainKeys := false, apart := false }
def IpcPlaysSaid : Prop := ipcPlaysRow.holds Try.pinned (OpenSpec.ofChange ipcPlaysSpec)

/-- ITS FALSE NEIGHBOUR: 'it returns false'. Refute it at one input. -/
def ipcPlaysWrong : ChangeSpec := { name := "ipcPlays", fn := fun _ => fun
  | [d] => { results := [.lit (.bool false)], args := [d] }
  | _ => none }
def IpcPlaysWrongFalsely : Prop := ipcPlaysRow.holds Try.pinned (OpenSpec.ofChange ipcPlaysWrong)

/-- 'viceroylaw16.IpcOnce': WHATEVER THE INPUT: true; the input reads as it did. -/
def ipcOnceSpec : ChangeSpec := { name := "ipcOnce", fn := fun _ => fun
  | [d] => { results := [.lit (.bool true)], args := [d] }
  | _ => none }
def ipcOnceRow : OpenClaim := { program := "ytcdckkhfkkjbmaa", sum := "3f03bfbd4fce6c48230185ad412e53c7c6e0879d12909be0e89743f1e1e80b97", func := "viceroy/viceroylaw16.IpcOnce", spec := "ipcOnce", unfollowed := true, recurses := true, plainKeys := false, apart := false }
def IpcOnceSaid : Prop := ipcOnceRow.holds Try.pinned (OpenSpec.ofChange ipcOnceSpec)

/-- ITS FALSE NEIGHBOUR: 'it returns false'. Refute it at one input. -/
def ipcOnceWrong : ChangeSpec := { name := "ipcOnce", fn := fun _ => fun
  | [d] => { results := [.lit (.bool false)], args := [d] }
  | _ => none }
def IpcOnceWrongFalsely : Prop := ipcOnceRow.holds Try.pinned (OpenSpec.ofChange ipcOnceWrong)

/-- 'viceroylaw16.IpcOrder': WHATEVER THE INPUT: true; the input reads as it did. -/
def ipcOrderSpec : ChangeSpec := { name := "ipcOrder", fn := fun _ => fun
  | [d1, d2, d3] => { results := [.lit (.bool true)], args := [d1, d2, d3] }
  | _ => none }
def ipcOrderRow : OpenClaim := { program := "ytcdckkhfkkjbmaa", sum := "3f03bfbd4fce6c48230185ad412e53c7c6e0879d12909be0e89743f1e1e80b97", func := "viceroy/viceroylaw16.IpcOrder", spec := "ipcOrder", unfollowed := true, recurses := true, plainKeys := false, apart := false }
def IpcOrderSaid : Prop := ipcOrderRow.holds Try.pinned (OpenSpec.ofChange ipcOrderSpec)

/-- ITS FALSE NEIGHBOUR: 'it returns false'. Refute it at one input. -/
def ipcOrderWrong : ChangeSpec := { name := "ipcOrder", fn := fun _ => fun
  | [d1, d2, d3] => { results := [.lit (.bool false)], args := [d1, d2, d3] }
  | _ => none }
def IpcOrderWrongFalsely : Prop := ipcOrderRow.holds Try.pinned (OpenSpec.ofChange ipcOrderWrong)

/-- 'viceroylaw16.IpcSides': WHATEVER THE INPUT: true; the input reads as it did. -/
def ipcSidesSpec : ChangeSpec := { name := "ipcSides", fn := fun _ => fun
  | [d] => { results := [.lit (.bool true)], args := [d] }
  | _ => none }
def ipcSidesRow : OpenClaim := { program := "ytcdckkhfkkjbmaa", sum := "3f03bfbd4fce6c48230185ad412e53c7c6e0879d12909be0e89743f1e1e80b97", func := "viceroy/viceroylaw16.IpcSides", spec := "ipcSides", unfollowed := true, recurses := true, plainKeys := false, apart := false }
def IpcSidesSaid : Prop := ipcSidesRow.holds Try.pinned (OpenSpec.ofChange ipcSidesSpec)

/-- ITS FALSE NEIGHBOUR: 'it returns false'. Refute it at one input. -/
def ipcSidesWrong : ChangeSpec := { name := "ipcSides", fn := fun _ => fun
  | [d] => { results := [.lit (.bool false)], args := [d] }
  | _ => none }
def IpcSidesWrongFalsely : Prop := ipcSidesRow.holds Try.pinned (OpenSpec.ofChange ipcSidesWrong)

/-- 'viceroylaw16.IpcBits': WHATEVER THE INPUT: true; the input reads as it did. -/
def ipcBitsSpec : ChangeSpec := { name := "ipcBits", fn := fun _ => fun
  | [d1, d2, d3] => { results := [.lit (.bool true)], args := [d1, d2, d3] }
  | _ => none }
def ipcBitsRow : OpenClaim := { program := "ytcdckkhfkkjbmaa", sum := "3f03bfbd4fce6c48230185ad412e53c7c6e0879d12909be0e89743f1e1e80b97", func := "viceroy/viceroylaw16.IpcBits", spec := "ipcBits", unfollowed := true, recurses := true, plainKeys := false, apart := false }
def IpcBitsSaid : Prop := ipcBitsRow.holds Try.pinned (OpenSpec.ofChange ipcBitsSpec)

/-- ITS FALSE NEIGHBOUR: 'it returns false'. Refute it at one input. -/
def ipcBitsWrong : ChangeSpec := { name := "ipcBits", fn := fun _ => fun
  | [d1, d2, d3] => { results := [.lit (.bool false)], args := [d1, d2, d3] }
  | _ => none }
def IpcBitsWrongFalsely : Prop := ipcBitsRow.holds Try.pinned (OpenSpec.ofChange ipcBitsWrong)

/-- 'viceroylaw16.IpcCancels': WHATEVER THE INPUT: true; the input reads as it did. -/
def ipcCancelsSpec : ChangeSpec := { name := "ipcCancels", fn := fun _ => fun
  | [d1, d2] => { results := [.lit (.bool true)], args := [d1, d2] }
  | _ => none }
def ipcCancelsRow : OpenClaim := { program := "ytcdckkhfkkjbmaa", sum := "3f03bfbd4fce6c48230185ad412e53c7c6e0879d12909be0e89743f1e1e80b97", func := "viceroy/viceroylaw16.IpcCancels", spec := "ipcCancels", unfollowed := true, recurses := true, plainKeys := false, apart := false }
def IpcCancelsSaid : Prop := ipcCancelsRow.holds Try.pinned (OpenSpec.ofChange ipcCancelsSpec)

/-- ITS FALSE NEIGHBOUR: 'it returns false'. Refute it at one input. -/
def ipcCancelsWrong : ChangeSpec := { name := "ipcCancels", fn := fun _ => fun
  | [d1, d2] => { results := [.lit (.bool false)], args := [d1, d2] }
  | _ => none }
def IpcCancelsWrongFalsely : Prop := ipcCancelsRow.holds Try.pinned (OpenSpec.ofChange ipcCancelsWrong)

/- THE SECOND FORM. 'bulk': how many values and letters a reading holds, each counted each time it is reached (what is shared counts as often as it is met; a slice's spare places count too). A statement '..UptoSaid' is the law's where the arguments, and the package variables that the reading takes, are together of bulk at most 1048576: NARROWER than '..Said'. Prove '..Said' where nothing that the law and all that it calls make is longer than what came in: it says more and counts as full. Else prove '..UptoSaid'. A law counts once. -/
mutual
def uptoBulk {H : Type} : DataW H → Nat
  | .lit (.string bytes) => bytes.length + 1
  | .lit _ => 1
  | .nil => 1
  | .ptr d => uptoBulk d + 1
  | .slice elems spare => uptoBulkAll elems + uptoBulkAll spare + 1
  | .agg parts => uptoBulkAll parts + 1
  | .iface _ d => uptoBulk d + 1
  | .map entries => uptoBulkEntries entries + 1
  | .held _ => 1
def uptoBulkAll {H : Type} : List (DataW H) → Nat
  | [] => 0
  | d :: r => uptoBulk d + uptoBulkAll r
def uptoBulkEntries {H : Type} : List (Lit × DataW H) → Nat
  | [] => 0
  | x :: r => uptoBulkEntry x + uptoBulkEntries r
def uptoBulkEntry {H : Type} : Lit × DataW H → Nat
  | (.string bytes, d) => bytes.length + uptoBulk d + 1
  | (_, d) => uptoBulk d + 1
 end
def uptoSmall : (H : Type) → List (DataW H) → Bool := fun _ ds => decide (uptoBulkAll ds ≤ 1048576)
def OpenSpec.upto (s : _root_.Go.ChangeSpec) : _root_.Go.OpenSpec := { _root_.Go.OpenSpec.ofChange s with cond := some uptoSmall }

/-- 'viceroylaw16.IpcPlays', WHERE WHAT IT READS IS OF BULK AT MOST 1048576: true; the input reads as it did. -/
def ipcPlaysUptoRow : OpenClaim := { program := "ytcdckkhfkkjbmaa", sum := "3f03bfbd4fce6c48230185ad412e53c7c6e0879d12909be0e89743f1e1e80b97", func := "viceroy/viceroylaw16.IpcPlays", spec := "ipcPlays", unfollowed := true, recurses := true, plainKeys := false, apart := false, narrowed := true }
def IpcPlaysUptoSaid : Prop := ipcPlaysUptoRow.holds Try.pinned (OpenSpec.upto ipcPlaysSpec)

/-- 'viceroylaw16.IpcOnce', WHERE WHAT IT READS IS OF BULK AT MOST 1048576: true; the input reads as it did. -/
def ipcOnceUptoRow : OpenClaim := { program := "ytcdckkhfkkjbmaa", sum := "3f03bfbd4fce6c48230185ad412e53c7c6e0879d12909be0e89743f1e1e80b97", func := "viceroy/viceroylaw16.IpcOnce", spec := "ipcOnce", unfollowed := true, recurses := true, plainKeys := false, apart := false, narrowed := true }
def IpcOnceUptoSaid : Prop := ipcOnceUptoRow.holds Try.pinned (OpenSpec.upto ipcOnceSpec)

/-- 'viceroylaw16.IpcOrder', WHERE WHAT IT READS IS OF BULK AT MOST 1048576: true; the input reads as it did. -/
def ipcOrderUptoRow : OpenClaim := { program := "ytcdckkhfkkjbmaa", sum := "3f03bfbd4fce6c48230185ad412e53c7c6e0879d12909be0e89743f1e1e80b97", func := "viceroy/viceroylaw16.IpcOrder", spec := "ipcOrder", unfollowed := true, recurses := true, plainKeys := false, apart := false, narrowed := true }
def IpcOrderUptoSaid : Prop := ipcOrderUptoRow.holds Try.pinned (OpenSpec.upto ipcOrderSpec)

/-- 'viceroylaw16.IpcSides', WHERE WHAT IT READS IS OF BULK AT MOST 1048576: true; the input reads as it did. -/
def ipcSidesUptoRow : OpenClaim := { program := "ytcdckkhfkkjbmaa", sum := "3f03bfbd4fce6c48230185ad412e53c7c6e0879d12909be0e89743f1e1e80b97", func := "viceroy/viceroylaw16.IpcSides", spec := "ipcSides", unfollowed := true, recurses := true, plainKeys := false, apart := false, narrowed := true }
def IpcSidesUptoSaid : Prop := ipcSidesUptoRow.holds Try.pinned (OpenSpec.upto ipcSidesSpec)

/-- 'viceroylaw16.IpcBits', WHERE WHAT IT READS IS OF BULK AT MOST 1048576: true; the input reads as it did. -/
def ipcBitsUptoRow : OpenClaim := { program := "ytcdckkhfkkjbmaa", sum := "3f03bfbd4fce6c48230185ad412e53c7c6e0879d12909be0e89743f1e1e80b97", func := "viceroy/viceroylaw16.IpcBits", spec := "ipcBits", unfollowed := true, recurses := true, plainKeys := false, apart := false, narrowed := true }
def IpcBitsUptoSaid : Prop := ipcBitsUptoRow.holds Try.pinned (OpenSpec.upto ipcBitsSpec)

/-- 'viceroylaw16.IpcCancels', WHERE WHAT IT READS IS OF BULK AT MOST 1048576: true; the input reads as it did. -/
def ipcCancelsUptoRow : OpenClaim := { program := "ytcdckkhfkkjbmaa", sum := "3f03bfbd4fce6c48230185ad412e53c7c6e0879d12909be0e89743f1e1e80b97", func := "viceroy/viceroylaw16.IpcCancels", spec := "ipcCancels", unfollowed := true, recurses := true, plainKeys := false, apart := false, narrowed := true }
def IpcCancelsUptoSaid : Prop := ipcCancelsUptoRow.holds Try.pinned (OpenSpec.upto ipcCancelsSpec)

end Rows
end Go.Proofs.Ytcdckkhfkkjbmaa
