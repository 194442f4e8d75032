/-
  For a seat without the translation buffer: what the walks' texts lean on besides. No statement is proved here.
-/
import Derived.Test.YtnegnmoffidniabRows
import Derived.Test.YtnegnmoffidniabBase
import Derived.WalkKit
import Derived.WalkSpells
import Derived.WalkLawsBesides
import Derived.BigQuiet
import Derived.Deep.QuietTactic
import Derived.Laws.StructEq
import Derived.Laws.ResultCell
import Derived.Laws.Rows
namespace Go.Proofs.Ytnegnmoffidniab
open Go.RowKit

theorem Fr.undrew {S : Nat → Prop} {w w' : World} (h : Fr S w.drew w') : Fr S w w' := ⟨h.os, h.tape, h.output, h.size, h.block⟩

end Go.Proofs.Ytnegnmoffidniab
