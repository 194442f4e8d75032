/-
  The contract of package ram's Frames over the translation. No statement is proved here.
-/
import Derived.Test.YthmombgogmgobaaStore
namespace Go.Proofs.Ythmombgogmgobaa
open Go.RowKit

set_option maxHeartbeats 400000 in
theorem frames_any (w : World) (p bf nf : Nat) (bs : List UInt8) (h : IsRam w p bf nf bs) :
    Calls Try.prog 65 #[.pointer (some ⟨p, 0, none⟩)] w fun e w' => e = .returned (.int .i64 (nf : Int)) ∧ w = w' := by
  have hc := h.hcell
  clear h
  go_enter Try.func65, Try.ntmps65
  go_wp2
  go_ret
  exact ⟨rfl, rfl⟩

end Go.Proofs.Ythmombgogmgobaa
