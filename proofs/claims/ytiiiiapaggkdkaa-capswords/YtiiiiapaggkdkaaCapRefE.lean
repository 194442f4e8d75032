/-
  Contracts of the document's Right, Encode and Decode (package viceroyref11). No statement is proved here.
-/
import Derived.Test.YtiiiiapaggkdkaaCapRrA
import Derived.Test.YtiiiiapaggkdkaaCapRrB
import Derived.Test.YtiiiiapaggkdkaaCapRrC
import Derived.Test.YtiiiiapaggkdkaaCapDec
namespace Go.Proofs.Ytiiiiapaggkdkaa
open Go.RowKit

set_option maxRecDepth 100000 in
set_option maxHeartbeats 1600000 in
theorem rr_out (k o r b x g n : Int) (d : Bool) (w : World) (hk : k < 0 ∨ 11 < k) : Calls Try.prog 11 #[.agg #[.int .i64 k, .int .i64 o, .int .i64 r, .int .i64 b, .int .i64 x, .int .i64 g, .int .i64 n, .bool d]] w fun e w' => e = .returned (.bool false) ∧ Fr none' w w' := by
  have f0 := (Fr.refl none' w).alloc (.cells (cbox k o r b x g n d) 23)
  unfold cbox at f0
  have t0 : (k == 0) = false := by rw [beq_eq_false_iff_ne]; omega
  have t9 : (k == 9) = false := by rw [beq_eq_false_iff_ne]; omega
  have t10 : (k == 10) = false := by rw [beq_eq_false_iff_ne]; omega
  by_cases h : k < 0
  · have t1 : decide (k < 0) = true := by simpa using h
    clear h hk
    go_enter Try.func11, Try.ntmps11
    go_wp2_with fail
    go_ret
    exact ⟨rfl, f0⟩
  · have t1 : decide (k < 0) = false := by simpa using h
    have t2 : decide (11 < k) = true := by rw [decide_eq_true_eq]; omega
    clear h hk
    go_enter Try.func11, Try.ntmps11
    go_wp2_with fail
    go_ret
    exact ⟨rfl, f0⟩

theorem rright_any (k o r b x g n : Int) (d : Bool) (w : World) : Calls Try.prog 11 #[.agg #[.int .i64 k, .int .i64 o, .int .i64 r, .int .i64 b, .int .i64 x, .int .i64 g, .int .i64 n, .bool d]] w fun e w' => e = .returned (.bool (rightC (K.mk k o r b x g n d))) ∧ Fr none' w w' := by
  by_cases hk : k < 0 ∨ 11 < k
  · have e : rightC (K.mk k o r b x g n d) = false := by
      cases h : rightC (K.mk k o r b x g n d)
      · rfl
      · have := right_bounds h
        dsimp only at this
        omega
    rw [e]; exact rr_out k o r b x g n d w hk
  · have : k = 0 ∨ k = 1 ∨ k = 2 ∨ k = 4 ∨ k = 5 ∨ k = 6 ∨ k = 9 ∨ k = 10 ∨ (k = 3 ∨ k = 7 ∨ k = 8 ∨ k = 11) := by omega
    rcases this with rfl | rfl | rfl | rfl | rfl | rfl | rfl | rfl | h
    · exact rright_0 o r b x g n d w
    · exact rright_1 o r b x g n d w
    · exact rright_2 o r b x g n d w
    · exact rright_4 o r b x g n d w
    · exact rright_5 o r b x g n d w
    · exact rright_6 o r b x g n d w
    · exact rright_9 o r b x g n d w
    · exact rright_10 o r b x g n d w
    · exact rright_x k o r b x g n d w h

set_option maxRecDepth 100000 in
set_option maxHeartbeats 1600000 in
theorem renc_any (k o r b x g n : Int) (d : Bool) (w : World) : Calls Try.prog 13 #[.agg #[.int .i64 k, .int .i64 o, .int .i64 r, .int .i64 b, .int .i64 x, .int .i64 g, .int .i64 n, .bool d]] w fun e w' => e = .returned (.tuple #[.int .u64 (encW (K.mk k o r b x g n d)), .int .i64 (encE (K.mk k o r b x g n d))]) ∧ Fr none' w w' := by
  have f0 := (Fr.refl none' w).alloc (.cells (cbox k o r b x g n d) 23)
  have r0 := row_alloc w (cbox k o r b x g n d) 23
  unfold cbox at f0
  have R := fun w' => rright_any k o r b x g n d w'
  unfold encW encE
  cases h : rightC (K.mk k o r b x g n d)
  · rw [h] at R
    go_enter Try.func13, Try.ntmps13
    go_wp2_with (go_at_call 11; refine (R _).mono ?_; rintro e w1 ⟨rfl, f1⟩; replace f0 := f0.trans f1; clear f1)
    go_ret2
    exact ⟨rfl, f0⟩
  · rw [h] at R
    have hB : Hid (0 ≤ k ∧ k ≤ 11 ∧ 0 ≤ o ∧ o ≤ 1023 ∧ 0 ≤ r ∧ r ≤ 15 ∧ 0 ≤ b ∧ b ≤ 1048575 ∧ 0 ≤ x ∧ x ≤ 4 ∧ 0 ≤ n ∧ n ≤ 16 ∧ 0 ≤ g ∧ g < 65536) := right_bounds h
    obtain ⟨h1, h2, h3, h4, h5, h6, h7, h8, h9, h10, h11, h12, h13, h14⟩ := hB.out
    clear h
    cases d
    all_goals go_enter Try.func13, Try.ntmps13
    all_goals go_wp2_with (go_at_call 11; refine (R _).mono ?_; rintro e w1 ⟨rfl, f1⟩; replace f0 := f0.trans f1; obtain ⟨c0, c1, c2, c3, c4, c5, c6, c7⟩ := cbox_cells (r0.keep f1 (fun h => h)); clear f1)
    all_goals go_ret2
    all_goals refine ⟨ret_we ?_ rfl, f0⟩
    all_goals simp only [wordC, if_true, Bool.false_eq_true, if_false]
    all_goals omega

end Go.Proofs.Ytiiiiapaggkdkaa
