/-
  The law UntypedSizes walked. No statement is proved here.
-/
import Derived.Test.YtcmhndkbcfpbbaaUtAwake
import Derived.Test.YtcmhndkbcfpbbaaUtRefSz
namespace Go.Proofs.Ytcmhndkbcfpbbaa
open Go.RowKit

set_option maxHeartbeats 1000000 in
theorem lsizes_any (k n : Int) (w : World) : Calls Try.prog 4 #[.int .i64 k, .int .i64 n] w fun e w' => e = .returned (.bool true) ∧ Below w.heap.size w w' := by
  go_enter Try.func4, Try.ntmps4
  go_wp2_with fail
  refine (awake_any w).mono ?_
  rintro e w1 ⟨rfl, f1⟩
  go_wp2_with fail
  refine (usize_any k n _).mono ?_
  rintro e w2 ⟨rfl, rfl⟩
  go_wp2_with fail
  refine (rsize_any k n _).mono ?_
  rintro e w3 ⟨rfl, rfl⟩
  generalize sizV k n = a
  generalize sizE k n = b
  have h1 : (a == a) = true := by simp
  have h2 : (b == b) = true := by simp
  go_wp2_with fail
  go_ret
  exact ⟨by simp, f1.below (Nat.le_refl _) (fun _ h => h.elim)⟩

end Go.Proofs.Ytcmhndkbcfpbbaa
