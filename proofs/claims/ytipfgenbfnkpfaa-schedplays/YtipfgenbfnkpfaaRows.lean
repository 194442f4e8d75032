/-
  No cell of these rows narrows 'for every input' (looked for: loops, veiled, ifaces, maps, wideKeys, modest, calm, conditions, laid).
  DERIVED. THE GIVEN ROWS OF THIS SEAT. 6 by the template 'for every input the law returns true; each argument reads behind the call as it read before'; 0 by the template 'total and deterministic' (their statements: YtipfgenbfnkpfaaTotals.lean).
  GIVEN WITH THE SEED: the statements are not yours to turn. If you find one false, say at which input.
  Laid BY PROGRAM, IN A SANDBOX (cutbox-rows.mjs): the forced cells as the released guide's own fill.sh prints them over the translation 60eaeef257c61ac3… (all of the seat's roots in one cut). By AI agents, Wed Nov 11 2026. No macro, syntax, notation, axiom, sorry.
-/
import Derived.Test.YtipfgenbfnkpfaaChecked
import GoSem.Claim
import GoSem.ClaimJoined
import GoSem.ClaimMapViews
import Derived.JoinedTies
import Derived.KernelRfl
namespace Go.Proofs.Ytipfgenbfnkpfaa
/- THE CELL 'sum', in the pinned program and in every row, IS THE sha256 OF THE DUMP (.gsa) THAT YtipfgenbfnkpfaaProg.lean LOADS. Nothing in Lean hashes anything: it is a label: what it is worth is what the hold of that sum in a sandbox is worth. -/
noncomputable def Try.pinned : Pinned := { name := "ytipfgenbfnkpfaa", sum := "60eaeef257c61ac3535d81a1b722fccebf760bdc22b9b312a837c32de5bb4ba6", checked := Try.checked }
namespace Rows
def none {H : Type} : Left H := { results := [], args := [] }

/-- 'viceroylaw15.SchedPlays': WHATEVER THE INPUT: true; the input reads as it did. -/
def schedPlaysSpec : ChangeSpec := { name := "schedPlays", fn := fun _ => fun
  | [d1, d2] => { results := [.lit (.bool true)], args := [d1, d2] }
  | _ => none }
def schedPlaysRow : OpenClaim := { program := "ytipfgenbfnkpfaa", sum := "60eaeef257c61ac3535d81a1b722fccebf760bdc22b9b312a837c32de5bb4ba6", func := "viceroy/viceroylaw15.SchedPlays", spec := "schedPlays", inPlace := ["slices.overlaps[int]"], unfollowed := true, recurses := true, apart := false }
def SchedPlaysSaid : Prop := schedPlaysRow.holds Try.pinned (OpenSpec.ofChange schedPlaysSpec)

/-- ITS FALSE NEIGHBOUR: 'it returns false'. Refute it at one input. -/
def schedPlaysWrong : ChangeSpec := { name := "schedPlays", fn := fun _ => fun
  | [d1, d2] => { results := [.lit (.bool false)], args := [d1, d2] }
  | _ => none }
def SchedPlaysWrongFalsely : Prop := schedPlaysRow.holds Try.pinned (OpenSpec.ofChange schedPlaysWrong)

/-- 'viceroylaw15.SchedUrgent': WHATEVER THE INPUT: true; the input reads as it did. -/
def schedUrgentSpec : ChangeSpec := { name := "schedUrgent", fn := fun _ => fun
  | [d1, d2] => { results := [.lit (.bool true)], args := [d1, d2] }
  | _ => none }
def schedUrgentRow : OpenClaim := { program := "ytipfgenbfnkpfaa", sum := "60eaeef257c61ac3535d81a1b722fccebf760bdc22b9b312a837c32de5bb4ba6", func := "viceroy/viceroylaw15.SchedUrgent", spec := "schedUrgent", inPlace := ["slices.overlaps[int]"], unfollowed := true, recurses := true, apart := false }
def SchedUrgentSaid : Prop := schedUrgentRow.holds Try.pinned (OpenSpec.ofChange schedUrgentSpec)

/-- ITS FALSE NEIGHBOUR: 'it returns false'. Refute it at one input. -/
def schedUrgentWrong : ChangeSpec := { name := "schedUrgent", fn := fun _ => fun
  | [d1, d2] => { results := [.lit (.bool false)], args := [d1, d2] }
  | _ => none }
def SchedUrgentWrongFalsely : Prop := schedUrgentRow.holds Try.pinned (OpenSpec.ofChange schedUrgentWrong)

/-- 'viceroylaw15.SchedAwake': WHATEVER THE INPUT: true; the input reads as it did. -/
def schedAwakeSpec : ChangeSpec := { name := "schedAwake", fn := fun _ => fun
  | [d1, d2] => { results := [.lit (.bool true)], args := [d1, d2] }
  | _ => none }
def schedAwakeRow : OpenClaim := { program := "ytipfgenbfnkpfaa", sum := "60eaeef257c61ac3535d81a1b722fccebf760bdc22b9b312a837c32de5bb4ba6", func := "viceroy/viceroylaw15.SchedAwake", spec := "schedAwake", inPlace := ["slices.overlaps[int]"], unfollowed := true, recurses := true, apart := false }
def SchedAwakeSaid : Prop := schedAwakeRow.holds Try.pinned (OpenSpec.ofChange schedAwakeSpec)

/-- ITS FALSE NEIGHBOUR: 'it returns false'. Refute it at one input. -/
def schedAwakeWrong : ChangeSpec := { name := "schedAwake", fn := fun _ => fun
  | [d1, d2] => { results := [.lit (.bool false)], args := [d1, d2] }
  | _ => none }
def SchedAwakeWrongFalsely : Prop := schedAwakeRow.holds Try.pinned (OpenSpec.ofChange schedAwakeWrong)

/-- 'viceroylaw15.SchedTurns': WHATEVER THE INPUT: true; the input reads as it did. -/
def schedTurnsSpec : ChangeSpec := { name := "schedTurns", fn := fun _ => fun
  | [d1, d2, d3] => { results := [.lit (.bool true)], args := [d1, d2, d3] }
  | _ => none }
def schedTurnsRow : OpenClaim := { program := "ytipfgenbfnkpfaa", sum := "60eaeef257c61ac3535d81a1b722fccebf760bdc22b9b312a837c32de5bb4ba6", func := "viceroy/viceroylaw15.SchedTurns", spec := "schedTurns", inPlace := ["slices.overlaps[int]"], unfollowed := true, recurses := true, apart := false }
def SchedTurnsSaid : Prop := schedTurnsRow.holds Try.pinned (OpenSpec.ofChange schedTurnsSpec)

/-- ITS FALSE NEIGHBOUR: 'it returns false'. Refute it at one input. -/
def schedTurnsWrong : ChangeSpec := { name := "schedTurns", fn := fun _ => fun
  | [d1, d2, d3] => { results := [.lit (.bool false)], args := [d1, d2, d3] }
  | _ => none }
def SchedTurnsWrongFalsely : Prop := schedTurnsRow.holds Try.pinned (OpenSpec.ofChange schedTurnsWrong)

/-- 'viceroylaw15.SchedDomains': WHATEVER THE INPUT: true; the input reads as it did. -/
def schedDomainsSpec : ChangeSpec := { name := "schedDomains", fn := fun _ => fun
  | [d1, d2, d3, d4] => { results := [.lit (.bool true)], args := [d1, d2, d3, d4] }
  | _ => none }
def schedDomainsRow : OpenClaim := { program := "ytipfgenbfnkpfaa", sum := "60eaeef257c61ac3535d81a1b722fccebf760bdc22b9b312a837c32de5bb4ba6", func := "viceroy/viceroylaw15.SchedDomains", spec := "schedDomains", inPlace := ["slices.overlaps[int]"], unfollowed := true, recurses := true, apart := false }
def SchedDomainsSaid : Prop := schedDomainsRow.holds Try.pinned (OpenSpec.ofChange schedDomainsSpec)

/-- ITS FALSE NEIGHBOUR: 'it returns false'. Refute it at one input. -/
def schedDomainsWrong : ChangeSpec := { name := "schedDomains", fn := fun _ => fun
  | [d1, d2, d3, d4] => { results := [.lit (.bool false)], args := [d1, d2, d3, d4] }
  | _ => none }
def SchedDomainsWrongFalsely : Prop := schedDomainsRow.holds Try.pinned (OpenSpec.ofChange schedDomainsWrong)

/-- 'viceroylaw15.SchedDisplaces': WHATEVER THE INPUT: true; the input reads as it did. -/
def schedDisplacesSpec : ChangeSpec := { name := "schedDisplaces", fn := fun _ => fun
  | [d1, d2, d3] => { results := [.lit (.bool true)], args := [d1, d2, d3] }
  | _ => none }
def schedDisplacesRow : OpenClaim := { program := "ytipfgenbfnkpfaa", sum := "60eaeef257c61ac3535d81a1b722fccebf760bdc22b9b312a837c32de5bb4ba6", func := "viceroy/viceroylaw15.SchedDisplaces", spec := "schedDisplaces", inPlace := ["slices.overlaps[int]"], unfollowed := true, recurses := true, apart := false }
def SchedDisplacesSaid : Prop := schedDisplacesRow.holds Try.pinned (OpenSpec.ofChange schedDisplacesSpec)

/-- ITS FALSE NEIGHBOUR: 'it returns false'. Refute it at one input. -/
def schedDisplacesWrong : ChangeSpec := { name := "schedDisplaces", fn := fun _ => fun
  | [d1, d2, d3] => { results := [.lit (.bool false)], args := [d1, d2, d3] }
  | _ => none }
def SchedDisplacesWrongFalsely : Prop := schedDisplacesRow.holds Try.pinned (OpenSpec.ofChange schedDisplacesWrong)

/- THE SECOND FORM. 'bulk': how many values and letters a reading holds, each counted each time it is reached (what is shared counts as often as it is met; a slice's spare places count too). A statement '..UptoSaid' is the law's where the arguments, and the package variables that the reading takes, are together of bulk at most 1048576: NARROWER than '..Said'. Prove '..Said' where nothing that the law and all that it calls make is longer than what came in: it says more and counts as full. Else prove '..UptoSaid'. A law counts once. -/
mutual
def uptoBulk {H : Type} : DataW H → Nat
  | .lit (.string bytes) => bytes.length + 1
  | .lit _ => 1
  | .nil => 1
  | .ptr d => uptoBulk d + 1
  | .slice elems spare => uptoBulkAll elems + uptoBulkAll spare + 1
  | .agg parts => uptoBulkAll parts + 1
  | .iface _ d => uptoBulk d + 1
  | .map entries => uptoBulkEntries entries + 1
  | .held _ => 1
def uptoBulkAll {H : Type} : List (DataW H) → Nat
  | [] => 0
  | d :: r => uptoBulk d + uptoBulkAll r
def uptoBulkEntries {H : Type} : List (Lit × DataW H) → Nat
  | [] => 0
  | x :: r => uptoBulkEntry x + uptoBulkEntries r
def uptoBulkEntry {H : Type} : Lit × DataW H → Nat
  | (.string bytes, d) => bytes.length + uptoBulk d + 1
  | (_, d) => uptoBulk d + 1
 end
def uptoSmall : (H : Type) → List (DataW H) → Bool := fun _ ds => decide (uptoBulkAll ds ≤ 1048576)
def OpenSpec.upto (s : _root_.Go.ChangeSpec) : _root_.Go.OpenSpec := { _root_.Go.OpenSpec.ofChange s with cond := some uptoSmall }

/-- 'viceroylaw15.SchedPlays', WHERE WHAT IT READS IS OF BULK AT MOST 1048576: true; the input reads as it did. -/
def schedPlaysUptoRow : OpenClaim := { program := "ytipfgenbfnkpfaa", sum := "60eaeef257c61ac3535d81a1b722fccebf760bdc22b9b312a837c32de5bb4ba6", func := "viceroy/viceroylaw15.SchedPlays", spec := "schedPlays", inPlace := ["slices.overlaps[int]"], unfollowed := true, recurses := true, apart := false, narrowed := true }
def SchedPlaysUptoSaid : Prop := schedPlaysUptoRow.holds Try.pinned (OpenSpec.upto schedPlaysSpec)

/-- 'viceroylaw15.SchedUrgent', WHERE WHAT IT READS IS OF BULK AT MOST 1048576: true; the input reads as it did. -/
def schedUrgentUptoRow : OpenClaim := { program := "ytipfgenbfnkpfaa", sum := "60eaeef257c61ac3535d81a1b722fccebf760bdc22b9b312a837c32de5bb4ba6", func := "viceroy/viceroylaw15.SchedUrgent", spec := "schedUrgent", inPlace := ["slices.overlaps[int]"], unfollowed := true, recurses := true, apart := false, narrowed := true }
def SchedUrgentUptoSaid : Prop := schedUrgentUptoRow.holds Try.pinned (OpenSpec.upto schedUrgentSpec)

/-- 'viceroylaw15.SchedAwake', WHERE WHAT IT READS IS OF BULK AT MOST 1048576: true; the input reads as it did. -/
def schedAwakeUptoRow : OpenClaim := { program := "ytipfgenbfnkpfaa", sum := "60eaeef257c61ac3535d81a1b722fccebf760bdc22b9b312a837c32de5bb4ba6", func := "viceroy/viceroylaw15.SchedAwake", spec := "schedAwake", inPlace := ["slices.overlaps[int]"], unfollowed := true, recurses := true, apart := false, narrowed := true }
def SchedAwakeUptoSaid : Prop := schedAwakeUptoRow.holds Try.pinned (OpenSpec.upto schedAwakeSpec)

/-- 'viceroylaw15.SchedTurns', WHERE WHAT IT READS IS OF BULK AT MOST 1048576: true; the input reads as it did. -/
def schedTurnsUptoRow : OpenClaim := { program := "ytipfgenbfnkpfaa", sum := "60eaeef257c61ac3535d81a1b722fccebf760bdc22b9b312a837c32de5bb4ba6", func := "viceroy/viceroylaw15.SchedTurns", spec := "schedTurns", inPlace := ["slices.overlaps[int]"], unfollowed := true, recurses := true, apart := false, narrowed := true }
def SchedTurnsUptoSaid : Prop := schedTurnsUptoRow.holds Try.pinned (OpenSpec.upto schedTurnsSpec)

/-- 'viceroylaw15.SchedDomains', WHERE WHAT IT READS IS OF BULK AT MOST 1048576: true; the input reads as it did. -/
def schedDomainsUptoRow : OpenClaim := { program := "ytipfgenbfnkpfaa", sum := "60eaeef257c61ac3535d81a1b722fccebf760bdc22b9b312a837c32de5bb4ba6", func := "viceroy/viceroylaw15.SchedDomains", spec := "schedDomains", inPlace := ["slices.overlaps[int]"], unfollowed := true, recurses := true, apart := false, narrowed := true }
def SchedDomainsUptoSaid : Prop := schedDomainsUptoRow.holds Try.pinned (OpenSpec.upto schedDomainsSpec)

/-- 'viceroylaw15.SchedDisplaces', WHERE WHAT IT READS IS OF BULK AT MOST 1048576: true; the input reads as it did. -/
def schedDisplacesUptoRow : OpenClaim := { program := "ytipfgenbfnkpfaa", sum := "60eaeef257c61ac3535d81a1b722fccebf760bdc22b9b312a837c32de5bb4ba6", func := "viceroy/viceroylaw15.SchedDisplaces", spec := "schedDisplaces", inPlace := ["slices.overlaps[int]"], unfollowed := true, recurses := true, apart := false, narrowed := true }
def SchedDisplacesUptoSaid : Prop := schedDisplacesUptoRow.holds Try.pinned (OpenSpec.upto schedDisplacesSpec)

end Rows
end Go.Proofs.Ytipfgenbfnkpfaa
