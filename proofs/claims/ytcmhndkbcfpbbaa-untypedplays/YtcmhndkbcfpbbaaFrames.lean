/-
  The contract of package ram's Frames over the translation. No statement is proved here.
-/
import Derived.Test.YtcmhndkbcfpbbaaStore
namespace Go.Proofs.Ytcmhndkbcfpbbaa
open Go.RowKit

end Go.Proofs.Ytcmhndkbcfpbbaa
