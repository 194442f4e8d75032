/-
  No cell of these rows narrows 'for every input' (looked for: loops, veiled, ifaces, maps, wideKeys, modest, calm, conditions, laid).
  DERIVED. THE GIVEN ROWS OF THIS SEAT. 6 by the template 'for every input the law returns true; each argument reads behind the call as it read before'; 0 by the template 'total and deterministic' (their statements: YtkmpmjjjklfalaaTotals.lean).
  GIVEN WITH THE SEED: the statements are not yours to turn. If you find one false, say at which input.
  Laid BY PROGRAM, IN A SANDBOX (cutbox-rows.mjs): the forced cells as the released guide's own fill.sh prints them over the translation 81c44b72be27abcf… (all of the seat's roots in one cut). By AI agents, Wed Nov 11 2026. No macro, syntax, notation, axiom, sorry.
-/
import Derived.Test.YtkmpmjjjklfalaaChecked
import GoSem.Claim
import GoSem.ClaimJoined
import GoSem.ClaimMapViews
import Derived.JoinedTies
import Derived.KernelRfl
namespace Go.Proofs.Ytkmpmjjjklfalaa
/- THE CELL 'sum', in the pinned program and in every row, IS THE sha256 OF THE DUMP (.gsa) THAT YtkmpmjjjklfalaaProg.lean LOADS. Nothing in Lean hashes anything: it is a label: what it is worth is what the hold of that sum in a sandbox is worth. -/
noncomputable def Try.pinned : Pinned := { name := "ytkmpmjjjklfalaa", sum := "81c44b72be27abcf3dcc94550eafe27cc6deb064d2ffa28c7cb62ec86cc2c1bf", checked := Try.checked }
namespace Rows
def none {H : Type} : Left H := { results := [], args := [] }

/-- 'viceroylaw03.TlbPlays': WHATEVER THE INPUT: true; the input reads as it did. -/
def tlbPlaysSpec : ChangeSpec := { name := "tlbPlays", fn := fun _ => fun
  | [d] => { results := [.lit (.bool true)], args := [d] }
  | _ => none }
def tlbPlaysRow : OpenClaim := { program := "ytkmpmjjjklfalaa", sum := "81c44b72be27abcf3dcc94550eafe27cc6deb064d2ffa28c7cb62ec86cc2c1bf", func := "viceroy/viceroylaw03.TlbPlays", spec := "tlbPlays", unfollowed := true, recurses := true, apart := false }
def TlbPlaysSaid : Prop := tlbPlaysRow.holds Try.pinned (OpenSpec.ofChange tlbPlaysSpec)

/-- ITS FALSE NEIGHBOUR: 'it returns false'. Refute it at one input. -/
def tlbPlaysWrong : ChangeSpec := { name := "tlbPlays", fn := fun _ => fun
  | [d] => { results := [.lit (.bool false)], args := [d] }
  | _ => none }
def TlbPlaysWrongFalsely : Prop := tlbPlaysRow.holds Try.pinned (OpenSpec.ofChange tlbPlaysWrong)

/-- 'viceroylaw03.TlbLines': WHATEVER THE INPUT: true; the input reads as it did. -/
def tlbLinesSpec : ChangeSpec := { name := "tlbLines", fn := fun _ => fun
  | [d1, d2] => { results := [.lit (.bool true)], args := [d1, d2] }
  | _ => none }
def tlbLinesRow : OpenClaim := { program := "ytkmpmjjjklfalaa", sum := "81c44b72be27abcf3dcc94550eafe27cc6deb064d2ffa28c7cb62ec86cc2c1bf", func := "viceroy/viceroylaw03.TlbLines", spec := "tlbLines", unfollowed := true, recurses := true, apart := false }
def TlbLinesSaid : Prop := tlbLinesRow.holds Try.pinned (OpenSpec.ofChange tlbLinesSpec)

/-- ITS FALSE NEIGHBOUR: 'it returns false'. Refute it at one input. -/
def tlbLinesWrong : ChangeSpec := { name := "tlbLines", fn := fun _ => fun
  | [d1, d2] => { results := [.lit (.bool false)], args := [d1, d2] }
  | _ => none }
def TlbLinesWrongFalsely : Prop := tlbLinesRow.holds Try.pinned (OpenSpec.ofChange tlbLinesWrong)

/-- 'viceroylaw03.TlbOnce': WHATEVER THE INPUT: true; the input reads as it did. -/
def tlbOnceSpec : ChangeSpec := { name := "tlbOnce", fn := fun _ => fun
  | [d] => { results := [.lit (.bool true)], args := [d] }
  | _ => none }
def tlbOnceRow : OpenClaim := { program := "ytkmpmjjjklfalaa", sum := "81c44b72be27abcf3dcc94550eafe27cc6deb064d2ffa28c7cb62ec86cc2c1bf", func := "viceroy/viceroylaw03.TlbOnce", spec := "tlbOnce", unfollowed := true, recurses := true, apart := false }
def TlbOnceSaid : Prop := tlbOnceRow.holds Try.pinned (OpenSpec.ofChange tlbOnceSpec)

/-- ITS FALSE NEIGHBOUR: 'it returns false'. Refute it at one input. -/
def tlbOnceWrong : ChangeSpec := { name := "tlbOnce", fn := fun _ => fun
  | [d] => { results := [.lit (.bool false)], args := [d] }
  | _ => none }
def TlbOnceWrongFalsely : Prop := tlbOnceRow.holds Try.pinned (OpenSpec.ofChange tlbOnceWrong)

/-- 'viceroylaw03.TlbFlushed': WHATEVER THE INPUT: true; the input reads as it did. -/
def tlbFlushedSpec : ChangeSpec := { name := "tlbFlushed", fn := fun _ => fun
  | [d1, d2, d3, d4] => { results := [.lit (.bool true)], args := [d1, d2, d3, d4] }
  | _ => none }
def tlbFlushedRow : OpenClaim := { program := "ytkmpmjjjklfalaa", sum := "81c44b72be27abcf3dcc94550eafe27cc6deb064d2ffa28c7cb62ec86cc2c1bf", func := "viceroy/viceroylaw03.TlbFlushed", spec := "tlbFlushed", unfollowed := true, recurses := true, apart := false }
def TlbFlushedSaid : Prop := tlbFlushedRow.holds Try.pinned (OpenSpec.ofChange tlbFlushedSpec)

/-- ITS FALSE NEIGHBOUR: 'it returns false'. Refute it at one input. -/
def tlbFlushedWrong : ChangeSpec := { name := "tlbFlushed", fn := fun _ => fun
  | [d1, d2, d3, d4] => { results := [.lit (.bool false)], args := [d1, d2, d3, d4] }
  | _ => none }
def TlbFlushedWrongFalsely : Prop := tlbFlushedRow.holds Try.pinned (OpenSpec.ofChange tlbFlushedWrong)

/-- 'viceroylaw03.TlbKeeps': WHATEVER THE INPUT: true; the input reads as it did. -/
def tlbKeepsSpec : ChangeSpec := { name := "tlbKeeps", fn := fun _ => fun
  | [d1, d2, d3] => { results := [.lit (.bool true)], args := [d1, d2, d3] }
  | _ => none }
def tlbKeepsRow : OpenClaim := { program := "ytkmpmjjjklfalaa", sum := "81c44b72be27abcf3dcc94550eafe27cc6deb064d2ffa28c7cb62ec86cc2c1bf", func := "viceroy/viceroylaw03.TlbKeeps", spec := "tlbKeeps", unfollowed := true, recurses := true, apart := false }
def TlbKeepsSaid : Prop := tlbKeepsRow.holds Try.pinned (OpenSpec.ofChange tlbKeepsSpec)

/-- ITS FALSE NEIGHBOUR: 'it returns false'. Refute it at one input. -/
def tlbKeepsWrong : ChangeSpec := { name := "tlbKeeps", fn := fun _ => fun
  | [d1, d2, d3] => { results := [.lit (.bool false)], args := [d1, d2, d3] }
  | _ => none }
def TlbKeepsWrongFalsely : Prop := tlbKeepsRow.holds Try.pinned (OpenSpec.ofChange tlbKeepsWrong)

/-- 'viceroylaw03.TlbCounts': WHATEVER THE INPUT: true; the input reads as it did. -/
def tlbCountsSpec : ChangeSpec := { name := "tlbCounts", fn := fun _ => fun
  | [d1, d2] => { results := [.lit (.bool true)], args := [d1, d2] }
  | _ => none }
def tlbCountsRow : OpenClaim := { program := "ytkmpmjjjklfalaa", sum := "81c44b72be27abcf3dcc94550eafe27cc6deb064d2ffa28c7cb62ec86cc2c1bf", func := "viceroy/viceroylaw03.TlbCounts", spec := "tlbCounts", unfollowed := true, recurses := true, apart := false }
def TlbCountsSaid : Prop := tlbCountsRow.holds Try.pinned (OpenSpec.ofChange tlbCountsSpec)

/-- ITS FALSE NEIGHBOUR: 'it returns false'. Refute it at one input. -/
def tlbCountsWrong : ChangeSpec := { name := "tlbCounts", fn := fun _ => fun
  | [d1, d2] => { results := [.lit (.bool false)], args := [d1, d2] }
  | _ => none }
def TlbCountsWrongFalsely : Prop := tlbCountsRow.holds Try.pinned (OpenSpec.ofChange tlbCountsWrong)

/- THE SECOND FORM. 'bulk': how many values and letters a reading holds, each counted each time it is reached (what is shared counts as often as it is met; a slice's spare places count too). A statement '..UptoSaid' is the law's where the arguments, and the package variables that the reading takes, are together of bulk at most 1048576: NARROWER than '..Said'. Prove '..Said' where nothing that the law and all that it calls make is longer than what came in: it says more and counts as full. Else prove '..UptoSaid'. A law counts once. -/
mutual
def uptoBulk {H : Type} : DataW H → Nat
  | .lit (.string bytes) => bytes.length + 1
  | .lit _ => 1
  | .nil => 1
  | .ptr d => uptoBulk d + 1
  | .slice elems spare => uptoBulkAll elems + uptoBulkAll spare + 1
  | .agg parts => uptoBulkAll parts + 1
  | .iface _ d => uptoBulk d + 1
  | .map entries => uptoBulkEntries entries + 1
  | .held _ => 1
def uptoBulkAll {H : Type} : List (DataW H) → Nat
  | [] => 0
  | d :: r => uptoBulk d + uptoBulkAll r
def uptoBulkEntries {H : Type} : List (Lit × DataW H) → Nat
  | [] => 0
  | x :: r => uptoBulkEntry x + uptoBulkEntries r
def uptoBulkEntry {H : Type} : Lit × DataW H → Nat
  | (.string bytes, d) => bytes.length + uptoBulk d + 1
  | (_, d) => uptoBulk d + 1
 end
def uptoSmall : (H : Type) → List (DataW H) → Bool := fun _ ds => decide (uptoBulkAll ds ≤ 1048576)
def OpenSpec.upto (s : _root_.Go.ChangeSpec) : _root_.Go.OpenSpec := { _root_.Go.OpenSpec.ofChange s with cond := some uptoSmall }

/-- 'viceroylaw03.TlbPlays', WHERE WHAT IT READS IS OF BULK AT MOST 1048576: true; the input reads as it did. -/
def tlbPlaysUptoRow : OpenClaim := { program := "ytkmpmjjjklfalaa", sum := "81c44b72be27abcf3dcc94550eafe27cc6deb064d2ffa28c7cb62ec86cc2c1bf", func := "viceroy/viceroylaw03.TlbPlays", spec := "tlbPlays", unfollowed := true, recurses := true, apart := false, narrowed := true }
def TlbPlaysUptoSaid : Prop := tlbPlaysUptoRow.holds Try.pinned (OpenSpec.upto tlbPlaysSpec)

/-- 'viceroylaw03.TlbLines', WHERE WHAT IT READS IS OF BULK AT MOST 1048576: true; the input reads as it did. -/
def tlbLinesUptoRow : OpenClaim := { program := "ytkmpmjjjklfalaa", sum := "81c44b72be27abcf3dcc94550eafe27cc6deb064d2ffa28c7cb62ec86cc2c1bf", func := "viceroy/viceroylaw03.TlbLines", spec := "tlbLines", unfollowed := true, recurses := true, apart := false, narrowed := true }
def TlbLinesUptoSaid : Prop := tlbLinesUptoRow.holds Try.pinned (OpenSpec.upto tlbLinesSpec)

/-- 'viceroylaw03.TlbOnce', WHERE WHAT IT READS IS OF BULK AT MOST 1048576: true; the input reads as it did. -/
def tlbOnceUptoRow : OpenClaim := { program := "ytkmpmjjjklfalaa", sum := "81c44b72be27abcf3dcc94550eafe27cc6deb064d2ffa28c7cb62ec86cc2c1bf", func := "viceroy/viceroylaw03.TlbOnce", spec := "tlbOnce", unfollowed := true, recurses := true, apart := false, narrowed := true }
def TlbOnceUptoSaid : Prop := tlbOnceUptoRow.holds Try.pinned (OpenSpec.upto tlbOnceSpec)

/-- 'viceroylaw03.TlbFlushed', WHERE WHAT IT READS IS OF BULK AT MOST 1048576: true; the input reads as it did. -/
def tlbFlushedUptoRow : OpenClaim := { program := "ytkmpmjjjklfalaa", sum := "81c44b72be27abcf3dcc94550eafe27cc6deb064d2ffa28c7cb62ec86cc2c1bf", func := "viceroy/viceroylaw03.TlbFlushed", spec := "tlbFlushed", unfollowed := true, recurses := true, apart := false, narrowed := true }
def TlbFlushedUptoSaid : Prop := tlbFlushedUptoRow.holds Try.pinned (OpenSpec.upto tlbFlushedSpec)

/-- 'viceroylaw03.TlbKeeps', WHERE WHAT IT READS IS OF BULK AT MOST 1048576: true; the input reads as it did. -/
def tlbKeepsUptoRow : OpenClaim := { program := "ytkmpmjjjklfalaa", sum := "81c44b72be27abcf3dcc94550eafe27cc6deb064d2ffa28c7cb62ec86cc2c1bf", func := "viceroy/viceroylaw03.TlbKeeps", spec := "tlbKeeps", unfollowed := true, recurses := true, apart := false, narrowed := true }
def TlbKeepsUptoSaid : Prop := tlbKeepsUptoRow.holds Try.pinned (OpenSpec.upto tlbKeepsSpec)

/-- 'viceroylaw03.TlbCounts', WHERE WHAT IT READS IS OF BULK AT MOST 1048576: true; the input reads as it did. -/
def tlbCountsUptoRow : OpenClaim := { program := "ytkmpmjjjklfalaa", sum := "81c44b72be27abcf3dcc94550eafe27cc6deb064d2ffa28c7cb62ec86cc2c1bf", func := "viceroy/viceroylaw03.TlbCounts", spec := "tlbCounts", unfollowed := true, recurses := true, apart := false, narrowed := true }
def TlbCountsUptoSaid : Prop := tlbCountsUptoRow.holds Try.pinned (OpenSpec.upto tlbCountsSpec)

end Rows
end Go.Proofs.Ytkmpmjjjklfalaa
