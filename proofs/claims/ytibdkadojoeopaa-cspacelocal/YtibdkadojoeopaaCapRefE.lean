/-
  Contracts of the document's Right, Encode and Decode (package viceroyref11). No statement is proved here.
-/
import Derived.Test.YtibdkadojoeopaaCapRrA
import Derived.Test.YtibdkadojoeopaaCapRrB
import Derived.Test.YtibdkadojoeopaaCapRrC
import Derived.Test.YtibdkadojoeopaaCapBound
namespace Go.Proofs.Ytibdkadojoeopaa
open Go.RowKit

set_option maxRecDepth 100000 in
set_option maxHeartbeats 1600000 in
theorem rr_out (k o r b x g n : Int) (d : Bool) (w : World) (hk : k < 0 ∨ 11 < k) : Calls Try.prog 21 #[.agg #[.int .i64 k, .int .i64 o, .int .i64 r, .int .i64 b, .int .i64 x, .int .i64 g, .int .i64 n, .bool d]] w fun e w' => e = .returned (.bool false) ∧ Fr none' w w' := by
  have f0 := (Fr.refl none' w).alloc (.cells (cbox k o r b x g n d) 34)
  unfold cbox at f0
  have t0 : (k == 0) = false := by rw [beq_eq_false_iff_ne]; omega
  have t9 : (k == 9) = false := by rw [beq_eq_false_iff_ne]; omega
  have t10 : (k == 10) = false := by rw [beq_eq_false_iff_ne]; omega
  by_cases h : k < 0
  · have t1 : decide (k < 0) = true := by simpa using h
    clear h hk
    go_enter Try.func21, Try.ntmps21
    go_wp2_with fail
    go_ret
    exact ⟨rfl, f0⟩
  · have t1 : decide (k < 0) = false := by simpa using h
    have t2 : decide (11 < k) = true := by rw [decide_eq_true_eq]; omega
    clear h hk
    go_enter Try.func21, Try.ntmps21
    go_wp2_with fail
    go_ret
    exact ⟨rfl, f0⟩

theorem rright_any (k o r b x g n : Int) (d : Bool) (w : World) : Calls Try.prog 21 #[.agg #[.int .i64 k, .int .i64 o, .int .i64 r, .int .i64 b, .int .i64 x, .int .i64 g, .int .i64 n, .bool d]] w fun e w' => e = .returned (.bool (rightC (K.mk k o r b x g n d))) ∧ Fr none' w w' := by
  by_cases hk : k < 0 ∨ 11 < k
  · have e : rightC (K.mk k o r b x g n d) = false := by
      cases h : rightC (K.mk k o r b x g n d)
      · rfl
      · have := right_bounds h
        dsimp only at this
        omega
    rw [e]; exact rr_out k o r b x g n d w hk
  · have : k = 0 ∨ k = 1 ∨ k = 2 ∨ k = 4 ∨ k = 5 ∨ k = 6 ∨ k = 9 ∨ k = 10 ∨ (k = 3 ∨ k = 7 ∨ k = 8 ∨ k = 11) := by omega
    rcases this with rfl | rfl | rfl | rfl | rfl | rfl | rfl | rfl | h
    · exact rright_0 o r b x g n d w
    · exact rright_1 o r b x g n d w
    · exact rright_2 o r b x g n d w
    · exact rright_4 o r b x g n d w
    · exact rright_5 o r b x g n d w
    · exact rright_6 o r b x g n d w
    · exact rright_9 o r b x g n d w
    · exact rright_10 o r b x g n d w
    · exact rright_x k o r b x g n d w h

end Go.Proofs.Ytibdkadojoeopaa
