/-
  For a seat without the translation buffer: what the walks' texts lean on besides. No statement is proved here.
-/
import Derived.Test.YthmombgogmgobaaRows
import Derived.Test.YthmombgogmgobaaBase
import Derived.WalkKit
import Derived.WalkSpells
import Derived.WalkLawsBesides
import Derived.BigQuiet
import Derived.Deep.QuietTactic
import Derived.Laws.StructEq
import Derived.Laws.ResultCell
import Derived.Laws.Rows
namespace Go.Proofs.Ythmombgogmgobaa
open Go.RowKit

theorem Fr.undrew {S : Nat → Prop} {w w' : World} (h : Fr S w.drew w') : Fr S w w' := ⟨h.os, h.tape, h.output, h.size, h.block⟩

end Go.Proofs.Ythmombgogmgobaa
