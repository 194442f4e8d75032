/-
  Contracts of the document's at, Find, Evict over the translation, of a buffer whose entries are empty or right. No statement is proved here.
-/
import Derived.Test.YteelpeolhbkhmabGreatTlbMem
namespace Go.Proofs.YteelpeolhbkhmabGreat
open Go.RowKit

end Go.Proofs.YteelpeolhbkhmabGreat
