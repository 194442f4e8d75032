/-
  The contract of package ram's Frames over the translation. No statement is proved here.
-/
import Derived.Test.YtgnoakidjnilpaaGreatStore
namespace Go.Proofs.YtgnoakidjnilpaaGreat
open Go.RowKit

set_option maxHeartbeats 400000 in
theorem frames_any (w : World) (p bf nf : Nat) (bs : List UInt8) (h : IsRam w p bf nf bs) :
    Calls Tryz.prog 122 #[.pointer (some ⟨p, 0, none⟩)] w fun e w' => e = .returned (.int .i64 (nf : Int)) ∧ w = w' := by
  have hc := h.hcell
  clear h
  go_enter Tryz.func122, Tryz.ntmps122
  go_wp2
  go_ret
  exact ⟨rfl, rfl⟩

end Go.Proofs.YtgnoakidjnilpaaGreat
