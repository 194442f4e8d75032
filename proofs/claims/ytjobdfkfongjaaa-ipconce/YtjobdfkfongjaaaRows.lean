/-
  No cell of these rows narrows 'for every input' (looked for: loops, veiled, ifaces, maps, wideKeys, modest, calm, conditions, laid).
  DERIVED. THE GIVEN ROWS OF THIS SEAT. 5 by the template 'for every input the law returns true; each argument reads behind the call as it read before'; 0 by the template 'total and deterministic' (their statements: YtjobdfkfongjaaaTotals.lean).
  GIVEN WITH THE SEED: the statements are not yours to turn. If you find one false, say at which input.
  Laid BY PROGRAM, IN A SANDBOX (cutbox-rows.mjs): the forced cells as the released guide's own fill.sh prints them over the translation 9758a63814f6bb41… (all of the seat's roots in one cut). By AI agents, Wed Nov 11 2026. No macro, syntax, notation, axiom, sorry.
-/
import Derived.Test.YtjobdfkfongjaaaChecked
import GoSem.Claim
import GoSem.ClaimJoined
import GoSem.ClaimMapViews
import Derived.JoinedTies
import Derived.KernelRfl
namespace Go.Proofs.Ytjobdfkfongjaaa
/- THE CELL 'sum', in the pinned program and in every row, IS THE sha256 OF THE DUMP (.gsa) THAT YtjobdfkfongjaaaProg.lean LOADS. Nothing in Lean hashes anything: it is a label: what it is worth is what the hold of that sum in a sandbox is worth. -/
noncomputable def Try.pinned : Pinned := { name := "ytjobdfkfongjaaa", sum := "9758a63814f6bb4117bd99769a4737c838306cc5ab48190cdf57c8750cf0358a", checked := Try.checked }
namespace Rows
def none {H : Type} : Left H := { results := [], args := [] }

/-- 'viceroylaw16.IpcPlays': WHATEVER THE INPUT: true; the input reads as it did. -/
def ipcPlaysSpec : ChangeSpec := { name := "ipcPlays", fn := fun _ => fun
  | [d] => { results := [.lit (.bool true)], args := [d] }
  | _ => none }
def ipcPlaysRow : OpenClaim := { program := "ytjobdfkfongjaaa", sum := "9758a63814f6bb4117bd99769a4737c838306cc5ab48190cdf57c8750cf0358a", func := "viceroy/viceroylaw16.IpcPlays", spec := "ipcPlays", unfollowed := true, recurses := true, plainKeys := false, apart := false }
def IpcPlaysSaid : Prop := ipcPlaysRow.holds Try.pinned (OpenSpec.ofChange ipcPlaysSpec)

/-- ITS FALSE NEIGHBOUR: 'it returns false'. Refute it at one input. -/
def ipcPlaysWrong : ChangeSpec := { name := "ipcPlays", fn := fun _ => fun
  | [d] => { results := [.lit (.bool false)], args := [d] }
  | _ => none }
def IpcPlaysWrongFalsely : Prop := ipcPlaysRow.holds Try.pinned (OpenSpec.ofChange ipcPlaysWrong)

/-- 'viceroylaw16.IpcOnce': WHATEVER THE INPUT: true; the input reads as it did. -/
def ipcOnceSpec : ChangeSpec := { name := "ipcOnce", fn := fun _ => fun
  | [d] => { results := [.lit (.bool true)], args := [d] }
  | _ => none }
def ipcOnceRow : OpenClaim := { program := "ytjobdfkfongjaaa", sum := "9758a63814f6bb4117bd99769a4737c838306cc5ab48190cdf57c8750cf0358a", func := "viceroy/viceroylaw16.IpcOnce", spec := "ipcOnce", unfollowed := true, recurses := true, plainKeys := false, apart := false }
def IpcOnceSaid : Prop := ipcOnceRow.holds Try.pinned (OpenSpec.ofChange ipcOnceSpec)

/-- ITS FALSE NEIGHBOUR: 'it returns false'. Refute it at one input. -/
def ipcOnceWrong : ChangeSpec := { name := "ipcOnce", fn := fun _ => fun
  | [d] => { results := [.lit (.bool false)], args := [d] }
  | _ => none }
def IpcOnceWrongFalsely : Prop := ipcOnceRow.holds Try.pinned (OpenSpec.ofChange ipcOnceWrong)

/-- 'viceroylaw16.IpcSides': WHATEVER THE INPUT: true; the input reads as it did. -/
def ipcSidesSpec : ChangeSpec := { name := "ipcSides", fn := fun _ => fun
  | [d] => { results := [.lit (.bool true)], args := [d] }
  | _ => none }
def ipcSidesRow : OpenClaim := { program := "ytjobdfkfongjaaa", sum := "9758a63814f6bb4117bd99769a4737c838306cc5ab48190cdf57c8750cf0358a", func := "viceroy/viceroylaw16.IpcSides", spec := "ipcSides", unfollowed := true, recurses := true, plainKeys := false, apart := false }
def IpcSidesSaid : Prop := ipcSidesRow.holds Try.pinned (OpenSpec.ofChange ipcSidesSpec)

/-- ITS FALSE NEIGHBOUR: 'it returns false'. Refute it at one input. -/
def ipcSidesWrong : ChangeSpec := { name := "ipcSides", fn := fun _ => fun
  | [d] => { results := [.lit (.bool false)], args := [d] }
  | _ => none }
def IpcSidesWrongFalsely : Prop := ipcSidesRow.holds Try.pinned (OpenSpec.ofChange ipcSidesWrong)

/-- 'viceroylaw16.IpcCancels': WHATEVER THE INPUT: true; the input reads as it did. -/
def ipcCancelsSpec : ChangeSpec := { name := "ipcCancels", fn := fun _ => fun
  | [d1, d2] => { results := [.lit (.bool true)], args := [d1, d2] }
  | _ => none }
def ipcCancelsRow : OpenClaim := { program := "ytjobdfkfongjaaa", sum := "9758a63814f6bb4117bd99769a4737c838306cc5ab48190cdf57c8750cf0358a", func := "viceroy/viceroylaw16.IpcCancels", spec := "ipcCancels", unfollowed := true, recurses := true, plainKeys := false, apart := false }
def IpcCancelsSaid : Prop := ipcCancelsRow.holds Try.pinned (OpenSpec.ofChange ipcCancelsSpec)

/-- ITS FALSE NEIGHBOUR: 'it returns false'. Refute it at one input. -/
def ipcCancelsWrong : ChangeSpec := { name := "ipcCancels", fn := fun _ => fun
  | [d1, d2] => { results := [.lit (.bool false)], args := [d1, d2] }
  | _ => none }
def IpcCancelsWrongFalsely : Prop := ipcCancelsRow.holds Try.pinned (OpenSpec.ofChange ipcCancelsWrong)

/-- 'viceroylaw16.IpcLeaves': WHATEVER THE INPUT: true; the input reads as it did. -/
def ipcLeavesSpec : ChangeSpec := { name := "ipcLeaves", fn := fun _ => fun
  | [d1, d2, d3, d4, d5] => { results := [.lit (.bool true)], args := [d1, d2, d3, d4, d5] }
  | _ => none }
def ipcLeavesRow : OpenClaim := { program := "ytjobdfkfongjaaa", sum := "9758a63814f6bb4117bd99769a4737c838306cc5ab48190cdf57c8750cf0358a", func := "viceroy/viceroylaw16.IpcLeaves", spec := "ipcLeaves", unfollowed := true, recurses := true, plainKeys := false, apart := false }
def IpcLeavesSaid : Prop := ipcLeavesRow.holds Try.pinned (OpenSpec.ofChange ipcLeavesSpec)

/-- ITS FALSE NEIGHBOUR: 'it returns false'. Refute it at one input. -/
def ipcLeavesWrong : ChangeSpec := { name := "ipcLeaves", fn := fun _ => fun
  | [d1, d2, d3, d4, d5] => { results := [.lit (.bool false)], args := [d1, d2, d3, d4, d5] }
  | _ => none }
def IpcLeavesWrongFalsely : Prop := ipcLeavesRow.holds Try.pinned (OpenSpec.ofChange ipcLeavesWrong)

/- THE SECOND FORM. 'bulk': how many values and letters a reading holds, each counted each time it is reached (what is shared counts as often as it is met; a slice's spare places count too). A statement '..UptoSaid' is the law's where the arguments, and the package variables that the reading takes, are together of bulk at most 1048576: NARROWER than '..Said'. Prove '..Said' where nothing that the law and all that it calls make is longer than what came in: it says more and counts as full. Else prove '..UptoSaid'. A law counts once. -/
mutual
def uptoBulk {H : Type} : DataW H → Nat
  | .lit (.string bytes) => bytes.length + 1
  | .lit _ => 1
  | .nil => 1
  | .ptr d => uptoBulk d + 1
  | .slice elems spare => uptoBulkAll elems + uptoBulkAll spare + 1
  | .agg parts => uptoBulkAll parts + 1
  | .iface _ d => uptoBulk d + 1
  | .map entries => uptoBulkEntries entries + 1
  | .held _ => 1
def uptoBulkAll {H : Type} : List (DataW H) → Nat
  | [] => 0
  | d :: r => uptoBulk d + uptoBulkAll r
def uptoBulkEntries {H : Type} : List (Lit × DataW H) → Nat
  | [] => 0
  | x :: r => uptoBulkEntry x + uptoBulkEntries r
def uptoBulkEntry {H : Type} : Lit × DataW H → Nat
  | (.string bytes, d) => bytes.length + uptoBulk d + 1
  | (_, d) => uptoBulk d + 1
 end
def uptoSmall : (H : Type) → List (DataW H) → Bool := fun _ ds => decide (uptoBulkAll ds ≤ 1048576)
def OpenSpec.upto (s : _root_.Go.ChangeSpec) : _root_.Go.OpenSpec := { _root_.Go.OpenSpec.ofChange s with cond := some uptoSmall }

/-- 'viceroylaw16.IpcPlays', WHERE WHAT IT READS IS OF BULK AT MOST 1048576: true; the input reads as it did. -/
def ipcPlaysUptoRow : OpenClaim := { program := "ytjobdfkfongjaaa", sum := "9758a63814f6bb4117bd99769a4737c838306cc5ab48190cdf57c8750cf0358a", func := "viceroy/viceroylaw16.IpcPlays", spec := "ipcPlays", unfollowed := true, recurses := true, plainKeys := false, apart := false, narrowed := true }
def IpcPlaysUptoSaid : Prop := ipcPlaysUptoRow.holds Try.pinned (OpenSpec.upto ipcPlaysSpec)

/-- 'viceroylaw16.IpcOnce', WHERE WHAT IT READS IS OF BULK AT MOST 1048576: true; the input reads as it did. -/
def ipcOnceUptoRow : OpenClaim := { program := "ytjobdfkfongjaaa", sum := "9758a63814f6bb4117bd99769a4737c838306cc5ab48190cdf57c8750cf0358a", func := "viceroy/viceroylaw16.IpcOnce", spec := "ipcOnce", unfollowed := true, recurses := true, plainKeys := false, apart := false, narrowed := true }
def IpcOnceUptoSaid : Prop := ipcOnceUptoRow.holds Try.pinned (OpenSpec.upto ipcOnceSpec)

/-- 'viceroylaw16.IpcSides', WHERE WHAT IT READS IS OF BULK AT MOST 1048576: true; the input reads as it did. -/
def ipcSidesUptoRow : OpenClaim := { program := "ytjobdfkfongjaaa", sum := "9758a63814f6bb4117bd99769a4737c838306cc5ab48190cdf57c8750cf0358a", func := "viceroy/viceroylaw16.IpcSides", spec := "ipcSides", unfollowed := true, recurses := true, plainKeys := false, apart := false, narrowed := true }
def IpcSidesUptoSaid : Prop := ipcSidesUptoRow.holds Try.pinned (OpenSpec.upto ipcSidesSpec)

/-- 'viceroylaw16.IpcCancels', WHERE WHAT IT READS IS OF BULK AT MOST 1048576: true; the input reads as it did. -/
def ipcCancelsUptoRow : OpenClaim := { program := "ytjobdfkfongjaaa", sum := "9758a63814f6bb4117bd99769a4737c838306cc5ab48190cdf57c8750cf0358a", func := "viceroy/viceroylaw16.IpcCancels", spec := "ipcCancels", unfollowed := true, recurses := true, plainKeys := false, apart := false, narrowed := true }
def IpcCancelsUptoSaid : Prop := ipcCancelsUptoRow.holds Try.pinned (OpenSpec.upto ipcCancelsSpec)

/-- 'viceroylaw16.IpcLeaves', WHERE WHAT IT READS IS OF BULK AT MOST 1048576: true; the input reads as it did. -/
def ipcLeavesUptoRow : OpenClaim := { program := "ytjobdfkfongjaaa", sum := "9758a63814f6bb4117bd99769a4737c838306cc5ab48190cdf57c8750cf0358a", func := "viceroy/viceroylaw16.IpcLeaves", spec := "ipcLeaves", unfollowed := true, recurses := true, plainKeys := false, apart := false, narrowed := true }
def IpcLeavesUptoSaid : Prop := ipcLeavesUptoRow.holds Try.pinned (OpenSpec.upto ipcLeavesSpec)

end Rows
end Go.Proofs.Ytjobdfkfongjaaa
