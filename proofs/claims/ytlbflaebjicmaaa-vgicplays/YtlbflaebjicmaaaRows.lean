/-
  No cell of these rows narrows 'for every input' (looked for: loops, veiled, ifaces, maps, wideKeys, modest, calm, conditions, laid).
  DERIVED. THE GIVEN ROWS OF THIS SEAT. 6 by the template 'for every input the law returns true; each argument reads behind the call as it read before'; 0 by the template 'total and deterministic' (their statements: YtlbflaebjicmaaaTotals.lean).
  GIVEN WITH THE SEED: the statements are not yours to turn. If you find one false, say at which input.
  Laid BY PROGRAM, IN A SANDBOX (cutbox-rows.mjs): the forced cells as the released guide's own fill.sh prints them over the translation 6fd708b62b5122f2… (all of the seat's roots in one cut). By AI agents, Wed Nov 11 2026. No macro, syntax, notation, axiom, sorry.
-/
import Derived.Test.YtlbflaebjicmaaaChecked
import GoSem.Claim
import GoSem.ClaimJoined
import GoSem.ClaimMapViews
import Derived.JoinedTies
import Derived.KernelRfl
namespace Go.Proofs.Ytlbflaebjicmaaa
/- THE CELL 'sum', in the pinned program and in every row, IS THE sha256 OF THE DUMP (.gsa) THAT YtlbflaebjicmaaaProg.lean LOADS. Nothing in Lean hashes anything: it is a label: what it is worth is what the hold of that sum in a sandbox is worth. -/
noncomputable def Try.pinned : Pinned := { name := "ytlbflaebjicmaaa", sum := "6fd708b62b5122f2d3b0cc9ca4dbd8969e2c7aba3b28176e96e321b3905c6bb8", checked := Try.checked }
namespace Rows
def none {H : Type} : Left H := { results := [], args := [] }

/-- 'viceroylaw08.VgicPlays': WHATEVER THE INPUT: true; the input reads as it did. -/
def vgicPlaysSpec : ChangeSpec := { name := "vgicPlays", fn := fun _ => fun
  | [d1, d2] => { results := [.lit (.bool true)], args := [d1, d2] }
  | _ => none }
def vgicPlaysRow : OpenClaim := { program := "ytlbflaebjicmaaa", sum := "6fd708b62b5122f2d3b0cc9ca4dbd8969e2c7aba3b28176e96e321b3905c6bb8", func := "viceroy/viceroylaw08.VgicPlays", spec := "vgicPlays", unfollowed := true, recurses := true, apart := false }
def VgicPlaysSaid : Prop := vgicPlaysRow.holds Try.pinned (OpenSpec.ofChange vgicPlaysSpec)

/-- ITS FALSE NEIGHBOUR: 'it returns false'. Refute it at one input. -/
def vgicPlaysWrong : ChangeSpec := { name := "vgicPlays", fn := fun _ => fun
  | [d1, d2] => { results := [.lit (.bool false)], args := [d1, d2] }
  | _ => none }
def VgicPlaysWrongFalsely : Prop := vgicPlaysRow.holds Try.pinned (OpenSpec.ofChange vgicPlaysWrong)

/-- 'viceroylaw08.VgicFew': WHATEVER THE INPUT: true; the input reads as it did. -/
def vgicFewSpec : ChangeSpec := { name := "vgicFew", fn := fun _ => fun
  | [d1, d2, d3] => { results := [.lit (.bool true)], args := [d1, d2, d3] }
  | _ => none }
def vgicFewRow : OpenClaim := { program := "ytlbflaebjicmaaa", sum := "6fd708b62b5122f2d3b0cc9ca4dbd8969e2c7aba3b28176e96e321b3905c6bb8", func := "viceroy/viceroylaw08.VgicFew", spec := "vgicFew", unfollowed := true, recurses := true, apart := false }
def VgicFewSaid : Prop := vgicFewRow.holds Try.pinned (OpenSpec.ofChange vgicFewSpec)

/-- ITS FALSE NEIGHBOUR: 'it returns false'. Refute it at one input. -/
def vgicFewWrong : ChangeSpec := { name := "vgicFew", fn := fun _ => fun
  | [d1, d2, d3] => { results := [.lit (.bool false)], args := [d1, d2, d3] }
  | _ => none }
def VgicFewWrongFalsely : Prop := vgicFewRow.holds Try.pinned (OpenSpec.ofChange vgicFewWrong)

/-- 'viceroylaw08.VgicOnce': WHATEVER THE INPUT: true; the input reads as it did. -/
def vgicOnceSpec : ChangeSpec := { name := "vgicOnce", fn := fun _ => fun
  | [d1, d2] => { results := [.lit (.bool true)], args := [d1, d2] }
  | _ => none }
def vgicOnceRow : OpenClaim := { program := "ytlbflaebjicmaaa", sum := "6fd708b62b5122f2d3b0cc9ca4dbd8969e2c7aba3b28176e96e321b3905c6bb8", func := "viceroy/viceroylaw08.VgicOnce", spec := "vgicOnce", unfollowed := true, recurses := true, apart := false }
def VgicOnceSaid : Prop := vgicOnceRow.holds Try.pinned (OpenSpec.ofChange vgicOnceSpec)

/-- ITS FALSE NEIGHBOUR: 'it returns false'. Refute it at one input. -/
def vgicOnceWrong : ChangeSpec := { name := "vgicOnce", fn := fun _ => fun
  | [d1, d2] => { results := [.lit (.bool false)], args := [d1, d2] }
  | _ => none }
def VgicOnceWrongFalsely : Prop := vgicOnceRow.holds Try.pinned (OpenSpec.ofChange vgicOnceWrong)

/-- 'viceroylaw08.VgicServes': WHATEVER THE INPUT: true; the input reads as it did. -/
def vgicServesSpec : ChangeSpec := { name := "vgicServes", fn := fun _ => fun
  | [d1, d2, d3] => { results := [.lit (.bool true)], args := [d1, d2, d3] }
  | _ => none }
def vgicServesRow : OpenClaim := { program := "ytlbflaebjicmaaa", sum := "6fd708b62b5122f2d3b0cc9ca4dbd8969e2c7aba3b28176e96e321b3905c6bb8", func := "viceroy/viceroylaw08.VgicServes", spec := "vgicServes", unfollowed := true, recurses := true, apart := false }
def VgicServesSaid : Prop := vgicServesRow.holds Try.pinned (OpenSpec.ofChange vgicServesSpec)

/-- ITS FALSE NEIGHBOUR: 'it returns false'. Refute it at one input. -/
def vgicServesWrong : ChangeSpec := { name := "vgicServes", fn := fun _ => fun
  | [d1, d2, d3] => { results := [.lit (.bool false)], args := [d1, d2, d3] }
  | _ => none }
def VgicServesWrongFalsely : Prop := vgicServesRow.holds Try.pinned (OpenSpec.ofChange vgicServesWrong)

/-- 'viceroylaw08.VgicNests': WHATEVER THE INPUT: true; the input reads as it did. -/
def vgicNestsSpec : ChangeSpec := { name := "vgicNests", fn := fun _ => fun
  | [d1, d2] => { results := [.lit (.bool true)], args := [d1, d2] }
  | _ => none }
def vgicNestsRow : OpenClaim := { program := "ytlbflaebjicmaaa", sum := "6fd708b62b5122f2d3b0cc9ca4dbd8969e2c7aba3b28176e96e321b3905c6bb8", func := "viceroy/viceroylaw08.VgicNests", spec := "vgicNests", unfollowed := true, recurses := true, apart := false }
def VgicNestsSaid : Prop := vgicNestsRow.holds Try.pinned (OpenSpec.ofChange vgicNestsSpec)

/-- ITS FALSE NEIGHBOUR: 'it returns false'. Refute it at one input. -/
def vgicNestsWrong : ChangeSpec := { name := "vgicNests", fn := fun _ => fun
  | [d1, d2] => { results := [.lit (.bool false)], args := [d1, d2] }
  | _ => none }
def VgicNestsWrongFalsely : Prop := vgicNestsRow.holds Try.pinned (OpenSpec.ofChange vgicNestsWrong)

/-- 'viceroylaw08.VgicAgain': WHATEVER THE INPUT: true; the input reads as it did. -/
def vgicAgainSpec : ChangeSpec := { name := "vgicAgain", fn := fun _ => fun
  | [d1, d2, d3, d4] => { results := [.lit (.bool true)], args := [d1, d2, d3, d4] }
  | _ => none }
def vgicAgainRow : OpenClaim := { program := "ytlbflaebjicmaaa", sum := "6fd708b62b5122f2d3b0cc9ca4dbd8969e2c7aba3b28176e96e321b3905c6bb8", func := "viceroy/viceroylaw08.VgicAgain", spec := "vgicAgain", unfollowed := true, recurses := true, apart := false }
def VgicAgainSaid : Prop := vgicAgainRow.holds Try.pinned (OpenSpec.ofChange vgicAgainSpec)

/-- ITS FALSE NEIGHBOUR: 'it returns false'. Refute it at one input. -/
def vgicAgainWrong : ChangeSpec := { name := "vgicAgain", fn := fun _ => fun
  | [d1, d2, d3, d4] => { results := [.lit (.bool false)], args := [d1, d2, d3, d4] }
  | _ => none }
def VgicAgainWrongFalsely : Prop := vgicAgainRow.holds Try.pinned (OpenSpec.ofChange vgicAgainWrong)

/- THE SECOND FORM. 'bulk': how many values and letters a reading holds, each counted each time it is reached (what is shared counts as often as it is met; a slice's spare places count too). A statement '..UptoSaid' is the law's where the arguments, and the package variables that the reading takes, are together of bulk at most 1048576: NARROWER than '..Said'. Prove '..Said' where nothing that the law and all that it calls make is longer than what came in: it says more and counts as full. Else prove '..UptoSaid'. A law counts once. -/
mutual
def uptoBulk {H : Type} : DataW H → Nat
  | .lit (.string bytes) => bytes.length + 1
  | .lit _ => 1
  | .nil => 1
  | .ptr d => uptoBulk d + 1
  | .slice elems spare => uptoBulkAll elems + uptoBulkAll spare + 1
  | .agg parts => uptoBulkAll parts + 1
  | .iface _ d => uptoBulk d + 1
  | .map entries => uptoBulkEntries entries + 1
  | .held _ => 1
def uptoBulkAll {H : Type} : List (DataW H) → Nat
  | [] => 0
  | d :: r => uptoBulk d + uptoBulkAll r
def uptoBulkEntries {H : Type} : List (Lit × DataW H) → Nat
  | [] => 0
  | x :: r => uptoBulkEntry x + uptoBulkEntries r
def uptoBulkEntry {H : Type} : Lit × DataW H → Nat
  | (.string bytes, d) => bytes.length + uptoBulk d + 1
  | (_, d) => uptoBulk d + 1
 end
def uptoSmall : (H : Type) → List (DataW H) → Bool := fun _ ds => decide (uptoBulkAll ds ≤ 1048576)
def OpenSpec.upto (s : _root_.Go.ChangeSpec) : _root_.Go.OpenSpec := { _root_.Go.OpenSpec.ofChange s with cond := some uptoSmall }

/-- 'viceroylaw08.VgicPlays', WHERE WHAT IT READS IS OF BULK AT MOST 1048576: true; the input reads as it did. -/
def vgicPlaysUptoRow : OpenClaim := { program := "ytlbflaebjicmaaa", sum := "6fd708b62b5122f2d3b0cc9ca4dbd8969e2c7aba3b28176e96e321b3905c6bb8", func := "viceroy/viceroylaw08.VgicPlays", spec := "vgicPlays", unfollowed := true, recurses := true, apart := false, narrowed := true }
def VgicPlaysUptoSaid : Prop := vgicPlaysUptoRow.holds Try.pinned (OpenSpec.upto vgicPlaysSpec)

/-- 'viceroylaw08.VgicFew', WHERE WHAT IT READS IS OF BULK AT MOST 1048576: true; the input reads as it did. -/
def vgicFewUptoRow : OpenClaim := { program := "ytlbflaebjicmaaa", sum := "6fd708b62b5122f2d3b0cc9ca4dbd8969e2c7aba3b28176e96e321b3905c6bb8", func := "viceroy/viceroylaw08.VgicFew", spec := "vgicFew", unfollowed := true, recurses := true, apart := false, narrowed := true }
def VgicFewUptoSaid : Prop := vgicFewUptoRow.holds Try.pinned (OpenSpec.upto vgicFewSpec)

/-- 'viceroylaw08.VgicOnce', WHERE WHAT IT READS IS OF BULK AT MOST 1048576: true; the input reads as it did. -/
def vgicOnceUptoRow : OpenClaim := { program := "ytlbflaebjicmaaa", sum := "6fd708b62b5122f2d3b0cc9ca4dbd8969e2c7aba3b28176e96e321b3905c6bb8", func := "viceroy/viceroylaw08.VgicOnce", spec := "vgicOnce", unfollowed := true, recurses := true, apart := false, narrowed := true }
def VgicOnceUptoSaid : Prop := vgicOnceUptoRow.holds Try.pinned (OpenSpec.upto vgicOnceSpec)

/-- 'viceroylaw08.VgicServes', WHERE WHAT IT READS IS OF BULK AT MOST 1048576: true; the input reads as it did. -/
def vgicServesUptoRow : OpenClaim := { program := "ytlbflaebjicmaaa", sum := "6fd708b62b5122f2d3b0cc9ca4dbd8969e2c7aba3b28176e96e321b3905c6bb8", func := "viceroy/viceroylaw08.VgicServes", spec := "vgicServes", unfollowed := true, recurses := true, apart := false, narrowed := true }
def VgicServesUptoSaid : Prop := vgicServesUptoRow.holds Try.pinned (OpenSpec.upto vgicServesSpec)

/-- 'viceroylaw08.VgicNests', WHERE WHAT IT READS IS OF BULK AT MOST 1048576: true; the input reads as it did. -/
def vgicNestsUptoRow : OpenClaim := { program := "ytlbflaebjicmaaa", sum := "6fd708b62b5122f2d3b0cc9ca4dbd8969e2c7aba3b28176e96e321b3905c6bb8", func := "viceroy/viceroylaw08.VgicNests", spec := "vgicNests", unfollowed := true, recurses := true, apart := false, narrowed := true }
def VgicNestsUptoSaid : Prop := vgicNestsUptoRow.holds Try.pinned (OpenSpec.upto vgicNestsSpec)

/-- 'viceroylaw08.VgicAgain', WHERE WHAT IT READS IS OF BULK AT MOST 1048576: true; the input reads as it did. -/
def vgicAgainUptoRow : OpenClaim := { program := "ytlbflaebjicmaaa", sum := "6fd708b62b5122f2d3b0cc9ca4dbd8969e2c7aba3b28176e96e321b3905c6bb8", func := "viceroy/viceroylaw08.VgicAgain", spec := "vgicAgain", unfollowed := true, recurses := true, apart := false, narrowed := true }
def VgicAgainUptoSaid : Prop := vgicAgainUptoRow.holds Try.pinned (OpenSpec.upto vgicAgainSpec)

end Rows
end Go.Proofs.Ytlbflaebjicmaaa
