/-
  The contract of the document's Size over the translation. No statement is proved here.
-/
import Derived.Test.YtcmhndkbcfpbbaaUtSize
namespace Go.Proofs.Ytcmhndkbcfpbbaa
open Go.RowKit Go.Maps Go.WideMaps

set_option maxRecDepth 100000 in
set_option maxHeartbeats 1000000 in
theorem rsz_0e (w : World) : Calls Try.prog 19 #[.int .i64 1, .int .i64 1] w fun e w' => e = .returned (.tuple #[.int .i64 1, .int .i64 0]) ∧ w' = w := by
  go_enter Try.func19, Try.ntmps19
  go_wp2
  refine wp_loop_rounds 1 ?_
  rw [rounds_succ]; go_wp2
  go_ret2
  exact ⟨rfl, rfl⟩

set_option maxRecDepth 100000 in
set_option maxHeartbeats 1000000 in
theorem rsz_0 (n : Int) (h2 : n ≤ 1) (h3 : n ≠ 1) (w : World) : Calls Try.prog 19 #[.int .i64 1, .int .i64 n] w fun e w' => e = .returned (.tuple #[.int .i64 0, .int .i64 140]) ∧ w' = w := by
  have g1 : ¬ 1 < n := by omega
  have g2 : ¬ 2 < n := by omega
  have g4 : ¬ 4 < n := by omega
  have g8 : ¬ 8 < n := by omega
  have g16 : ¬ 16 < n := by omega
  have g32 : ¬ 32 < n := by omega
  have g64 : ¬ 64 < n := by omega
  have g128 : ¬ 128 < n := by omega
  have g256 : ¬ 256 < n := by omega
  have h4 : (1 : Int) ≠ n := fun e => h3 e.symm
  have h5 : ((1 : Int) == n) = false := by simpa using h4
  have h6 : (n == (1 : Int)) = false := by simpa using h3
  clear h2 h3
  go_enter Try.func19, Try.ntmps19
  go_wp2
  refine wp_loop_rounds 1 ?_
  rw [rounds_succ]; go_wp2
  go_ret2
  exact ⟨rfl, rfl⟩

set_option maxRecDepth 100000 in
set_option maxHeartbeats 1000000 in
theorem rsz_1e (w : World) : Calls Try.prog 19 #[.int .i64 1, .int .i64 2] w fun e w' => e = .returned (.tuple #[.int .i64 2, .int .i64 0]) ∧ w' = w := by
  go_enter Try.func19, Try.ntmps19
  go_wp2
  refine wp_loop_rounds 2 ?_
  rw [rounds_succ]; go_wp2
  rw [rounds_succ]; go_wp2
  go_ret2
  exact ⟨rfl, rfl⟩

set_option maxRecDepth 100000 in
set_option maxHeartbeats 1000000 in
theorem rsz_2e (w : World) : Calls Try.prog 19 #[.int .i64 1, .int .i64 4] w fun e w' => e = .returned (.tuple #[.int .i64 4, .int .i64 0]) ∧ w' = w := by
  go_enter Try.func19, Try.ntmps19
  go_wp2
  refine wp_loop_rounds 3 ?_
  rw [rounds_succ]; go_wp2
  rw [rounds_succ]; go_wp2
  rw [rounds_succ]; go_wp2
  go_ret2
  exact ⟨rfl, rfl⟩

set_option maxRecDepth 100000 in
set_option maxHeartbeats 1000000 in
theorem rsz_2 (n : Int) (h1 : 2 < n) (h2 : n ≤ 4) (h3 : n ≠ 4) (w : World) : Calls Try.prog 19 #[.int .i64 1, .int .i64 n] w fun e w' => e = .returned (.tuple #[.int .i64 0, .int .i64 140]) ∧ w' = w := by
  have g1 : 1 < n := by omega
  have g2 : 2 < n := by omega
  have g4 : ¬ 4 < n := by omega
  have g8 : ¬ 8 < n := by omega
  have g16 : ¬ 16 < n := by omega
  have g32 : ¬ 32 < n := by omega
  have g64 : ¬ 64 < n := by omega
  have g128 : ¬ 128 < n := by omega
  have g256 : ¬ 256 < n := by omega
  have h4 : (4 : Int) ≠ n := fun e => h3 e.symm
  have h5 : ((4 : Int) == n) = false := by simpa using h4
  have h6 : (n == (4 : Int)) = false := by simpa using h3
  clear h1 h2 h3
  go_enter Try.func19, Try.ntmps19
  go_wp2
  refine wp_loop_rounds 3 ?_
  rw [rounds_succ]; go_wp2
  rw [rounds_succ]; go_wp2
  rw [rounds_succ]; go_wp2
  go_ret2
  exact ⟨rfl, rfl⟩

set_option maxRecDepth 100000 in
set_option maxHeartbeats 1000000 in
theorem rsz_3e (w : World) : Calls Try.prog 19 #[.int .i64 1, .int .i64 8] w fun e w' => e = .returned (.tuple #[.int .i64 8, .int .i64 0]) ∧ w' = w := by
  go_enter Try.func19, Try.ntmps19
  go_wp2
  refine wp_loop_rounds 4 ?_
  rw [rounds_succ]; go_wp2
  rw [rounds_succ]; go_wp2
  rw [rounds_succ]; go_wp2
  rw [rounds_succ]; go_wp2
  go_ret2
  exact ⟨rfl, rfl⟩

set_option maxRecDepth 100000 in
set_option maxHeartbeats 1000000 in
theorem rsz_3 (n : Int) (h1 : 4 < n) (h2 : n ≤ 8) (h3 : n ≠ 8) (w : World) : Calls Try.prog 19 #[.int .i64 1, .int .i64 n] w fun e w' => e = .returned (.tuple #[.int .i64 0, .int .i64 140]) ∧ w' = w := by
  have g1 : 1 < n := by omega
  have g2 : 2 < n := by omega
  have g4 : 4 < n := by omega
  have g8 : ¬ 8 < n := by omega
  have g16 : ¬ 16 < n := by omega
  have g32 : ¬ 32 < n := by omega
  have g64 : ¬ 64 < n := by omega
  have g128 : ¬ 128 < n := by omega
  have g256 : ¬ 256 < n := by omega
  have h4 : (8 : Int) ≠ n := fun e => h3 e.symm
  have h5 : ((8 : Int) == n) = false := by simpa using h4
  have h6 : (n == (8 : Int)) = false := by simpa using h3
  clear h1 h2 h3
  go_enter Try.func19, Try.ntmps19
  go_wp2
  refine wp_loop_rounds 4 ?_
  rw [rounds_succ]; go_wp2
  rw [rounds_succ]; go_wp2
  rw [rounds_succ]; go_wp2
  rw [rounds_succ]; go_wp2
  go_ret2
  exact ⟨rfl, rfl⟩

set_option maxRecDepth 100000 in
set_option maxHeartbeats 1000000 in
theorem rsz_4e (w : World) : Calls Try.prog 19 #[.int .i64 1, .int .i64 16] w fun e w' => e = .returned (.tuple #[.int .i64 16, .int .i64 0]) ∧ w' = w := by
  go_enter Try.func19, Try.ntmps19
  go_wp2
  refine wp_loop_rounds 5 ?_
  rw [rounds_succ]; go_wp2
  rw [rounds_succ]; go_wp2
  rw [rounds_succ]; go_wp2
  rw [rounds_succ]; go_wp2
  rw [rounds_succ]; go_wp2
  go_ret2
  exact ⟨rfl, rfl⟩

set_option maxRecDepth 100000 in
set_option maxHeartbeats 1000000 in
theorem rsz_4 (n : Int) (h1 : 8 < n) (h2 : n ≤ 16) (h3 : n ≠ 16) (w : World) : Calls Try.prog 19 #[.int .i64 1, .int .i64 n] w fun e w' => e = .returned (.tuple #[.int .i64 0, .int .i64 140]) ∧ w' = w := by
  have g1 : 1 < n := by omega
  have g2 : 2 < n := by omega
  have g4 : 4 < n := by omega
  have g8 : 8 < n := by omega
  have g16 : ¬ 16 < n := by omega
  have g32 : ¬ 32 < n := by omega
  have g64 : ¬ 64 < n := by omega
  have g128 : ¬ 128 < n := by omega
  have g256 : ¬ 256 < n := by omega
  have h4 : (16 : Int) ≠ n := fun e => h3 e.symm
  have h5 : ((16 : Int) == n) = false := by simpa using h4
  have h6 : (n == (16 : Int)) = false := by simpa using h3
  clear h1 h2 h3
  go_enter Try.func19, Try.ntmps19
  go_wp2
  refine wp_loop_rounds 5 ?_
  rw [rounds_succ]; go_wp2
  rw [rounds_succ]; go_wp2
  rw [rounds_succ]; go_wp2
  rw [rounds_succ]; go_wp2
  rw [rounds_succ]; go_wp2
  go_ret2
  exact ⟨rfl, rfl⟩

set_option maxRecDepth 100000 in
set_option maxHeartbeats 1000000 in
theorem rsz_5e (w : World) : Calls Try.prog 19 #[.int .i64 1, .int .i64 32] w fun e w' => e = .returned (.tuple #[.int .i64 32, .int .i64 0]) ∧ w' = w := by
  go_enter Try.func19, Try.ntmps19
  go_wp2
  refine wp_loop_rounds 6 ?_
  rw [rounds_succ]; go_wp2
  rw [rounds_succ]; go_wp2
  rw [rounds_succ]; go_wp2
  rw [rounds_succ]; go_wp2
  rw [rounds_succ]; go_wp2
  rw [rounds_succ]; go_wp2
  go_ret2
  exact ⟨rfl, rfl⟩

set_option maxRecDepth 100000 in
set_option maxHeartbeats 1000000 in
theorem rsz_5 (n : Int) (h1 : 16 < n) (h2 : n ≤ 32) (h3 : n ≠ 32) (w : World) : Calls Try.prog 19 #[.int .i64 1, .int .i64 n] w fun e w' => e = .returned (.tuple #[.int .i64 0, .int .i64 140]) ∧ w' = w := by
  have g1 : 1 < n := by omega
  have g2 : 2 < n := by omega
  have g4 : 4 < n := by omega
  have g8 : 8 < n := by omega
  have g16 : 16 < n := by omega
  have g32 : ¬ 32 < n := by omega
  have g64 : ¬ 64 < n := by omega
  have g128 : ¬ 128 < n := by omega
  have g256 : ¬ 256 < n := by omega
  have h4 : (32 : Int) ≠ n := fun e => h3 e.symm
  have h5 : ((32 : Int) == n) = false := by simpa using h4
  have h6 : (n == (32 : Int)) = false := by simpa using h3
  clear h1 h2 h3
  go_enter Try.func19, Try.ntmps19
  go_wp2
  refine wp_loop_rounds 6 ?_
  rw [rounds_succ]; go_wp2
  rw [rounds_succ]; go_wp2
  rw [rounds_succ]; go_wp2
  rw [rounds_succ]; go_wp2
  rw [rounds_succ]; go_wp2
  rw [rounds_succ]; go_wp2
  go_ret2
  exact ⟨rfl, rfl⟩

set_option maxRecDepth 100000 in
set_option maxHeartbeats 1000000 in
theorem rsz_6e (w : World) : Calls Try.prog 19 #[.int .i64 1, .int .i64 64] w fun e w' => e = .returned (.tuple #[.int .i64 64, .int .i64 0]) ∧ w' = w := by
  go_enter Try.func19, Try.ntmps19
  go_wp2
  refine wp_loop_rounds 7 ?_
  rw [rounds_succ]; go_wp2
  rw [rounds_succ]; go_wp2
  rw [rounds_succ]; go_wp2
  rw [rounds_succ]; go_wp2
  rw [rounds_succ]; go_wp2
  rw [rounds_succ]; go_wp2
  rw [rounds_succ]; go_wp2
  go_ret2
  exact ⟨rfl, rfl⟩

set_option maxRecDepth 100000 in
set_option maxHeartbeats 1000000 in
theorem rsz_6 (n : Int) (h1 : 32 < n) (h2 : n ≤ 64) (h3 : n ≠ 64) (w : World) : Calls Try.prog 19 #[.int .i64 1, .int .i64 n] w fun e w' => e = .returned (.tuple #[.int .i64 0, .int .i64 140]) ∧ w' = w := by
  have g1 : 1 < n := by omega
  have g2 : 2 < n := by omega
  have g4 : 4 < n := by omega
  have g8 : 8 < n := by omega
  have g16 : 16 < n := by omega
  have g32 : 32 < n := by omega
  have g64 : ¬ 64 < n := by omega
  have g128 : ¬ 128 < n := by omega
  have g256 : ¬ 256 < n := by omega
  have h4 : (64 : Int) ≠ n := fun e => h3 e.symm
  have h5 : ((64 : Int) == n) = false := by simpa using h4
  have h6 : (n == (64 : Int)) = false := by simpa using h3
  clear h1 h2 h3
  go_enter Try.func19, Try.ntmps19
  go_wp2
  refine wp_loop_rounds 7 ?_
  rw [rounds_succ]; go_wp2
  rw [rounds_succ]; go_wp2
  rw [rounds_succ]; go_wp2
  rw [rounds_succ]; go_wp2
  rw [rounds_succ]; go_wp2
  rw [rounds_succ]; go_wp2
  rw [rounds_succ]; go_wp2
  go_ret2
  exact ⟨rfl, rfl⟩

set_option maxRecDepth 100000 in
set_option maxHeartbeats 1000000 in
theorem rsz_7e (w : World) : Calls Try.prog 19 #[.int .i64 1, .int .i64 128] w fun e w' => e = .returned (.tuple #[.int .i64 128, .int .i64 0]) ∧ w' = w := by
  go_enter Try.func19, Try.ntmps19
  go_wp2
  refine wp_loop_rounds 8 ?_
  rw [rounds_succ]; go_wp2
  rw [rounds_succ]; go_wp2
  rw [rounds_succ]; go_wp2
  rw [rounds_succ]; go_wp2
  rw [rounds_succ]; go_wp2
  rw [rounds_succ]; go_wp2
  rw [rounds_succ]; go_wp2
  rw [rounds_succ]; go_wp2
  go_ret2
  exact ⟨rfl, rfl⟩

set_option maxRecDepth 100000 in
set_option maxHeartbeats 1000000 in
theorem rsz_7 (n : Int) (h1 : 64 < n) (h2 : n ≤ 128) (h3 : n ≠ 128) (w : World) : Calls Try.prog 19 #[.int .i64 1, .int .i64 n] w fun e w' => e = .returned (.tuple #[.int .i64 0, .int .i64 140]) ∧ w' = w := by
  have g1 : 1 < n := by omega
  have g2 : 2 < n := by omega
  have g4 : 4 < n := by omega
  have g8 : 8 < n := by omega
  have g16 : 16 < n := by omega
  have g32 : 32 < n := by omega
  have g64 : 64 < n := by omega
  have g128 : ¬ 128 < n := by omega
  have g256 : ¬ 256 < n := by omega
  have h4 : (128 : Int) ≠ n := fun e => h3 e.symm
  have h5 : ((128 : Int) == n) = false := by simpa using h4
  have h6 : (n == (128 : Int)) = false := by simpa using h3
  clear h1 h2 h3
  go_enter Try.func19, Try.ntmps19
  go_wp2
  refine wp_loop_rounds 8 ?_
  rw [rounds_succ]; go_wp2
  rw [rounds_succ]; go_wp2
  rw [rounds_succ]; go_wp2
  rw [rounds_succ]; go_wp2
  rw [rounds_succ]; go_wp2
  rw [rounds_succ]; go_wp2
  rw [rounds_succ]; go_wp2
  rw [rounds_succ]; go_wp2
  go_ret2
  exact ⟨rfl, rfl⟩

set_option maxRecDepth 100000 in
set_option maxHeartbeats 1000000 in
theorem rsz_8e (w : World) : Calls Try.prog 19 #[.int .i64 1, .int .i64 256] w fun e w' => e = .returned (.tuple #[.int .i64 256, .int .i64 0]) ∧ w' = w := by
  go_enter Try.func19, Try.ntmps19
  go_wp2
  refine wp_loop_rounds 9 ?_
  rw [rounds_succ]; go_wp2
  rw [rounds_succ]; go_wp2
  rw [rounds_succ]; go_wp2
  rw [rounds_succ]; go_wp2
  rw [rounds_succ]; go_wp2
  rw [rounds_succ]; go_wp2
  rw [rounds_succ]; go_wp2
  rw [rounds_succ]; go_wp2
  rw [rounds_succ]; go_wp2
  go_ret2
  exact ⟨rfl, rfl⟩

set_option maxRecDepth 100000 in
set_option maxHeartbeats 1000000 in
theorem rsz_8 (n : Int) (h1 : 128 < n) (h2 : n ≤ 256) (h3 : n ≠ 256) (w : World) : Calls Try.prog 19 #[.int .i64 1, .int .i64 n] w fun e w' => e = .returned (.tuple #[.int .i64 0, .int .i64 140]) ∧ w' = w := by
  have g1 : 1 < n := by omega
  have g2 : 2 < n := by omega
  have g4 : 4 < n := by omega
  have g8 : 8 < n := by omega
  have g16 : 16 < n := by omega
  have g32 : 32 < n := by omega
  have g64 : 64 < n := by omega
  have g128 : 128 < n := by omega
  have g256 : ¬ 256 < n := by omega
  have h4 : (256 : Int) ≠ n := fun e => h3 e.symm
  have h5 : ((256 : Int) == n) = false := by simpa using h4
  have h6 : (n == (256 : Int)) = false := by simpa using h3
  clear h1 h2 h3
  go_enter Try.func19, Try.ntmps19
  go_wp2
  refine wp_loop_rounds 9 ?_
  rw [rounds_succ]; go_wp2
  rw [rounds_succ]; go_wp2
  rw [rounds_succ]; go_wp2
  rw [rounds_succ]; go_wp2
  rw [rounds_succ]; go_wp2
  rw [rounds_succ]; go_wp2
  rw [rounds_succ]; go_wp2
  rw [rounds_succ]; go_wp2
  rw [rounds_succ]; go_wp2
  go_ret2
  exact ⟨rfl, rfl⟩

set_option maxRecDepth 100000 in
set_option maxHeartbeats 1000000 in
theorem rsz_9e (w : World) : Calls Try.prog 19 #[.int .i64 1, .int .i64 512] w fun e w' => e = .returned (.tuple #[.int .i64 512, .int .i64 0]) ∧ w' = w := by
  go_enter Try.func19, Try.ntmps19
  go_wp2
  refine wp_loop_rounds 10 ?_
  rw [rounds_succ]; go_wp2
  rw [rounds_succ]; go_wp2
  rw [rounds_succ]; go_wp2
  rw [rounds_succ]; go_wp2
  rw [rounds_succ]; go_wp2
  rw [rounds_succ]; go_wp2
  rw [rounds_succ]; go_wp2
  rw [rounds_succ]; go_wp2
  rw [rounds_succ]; go_wp2
  rw [rounds_succ]; go_wp2
  go_ret2
  exact ⟨rfl, rfl⟩

set_option maxRecDepth 100000 in
set_option maxHeartbeats 1000000 in
theorem rsz_9 (n : Int) (h1 : 256 < n) (h2 : n ≤ 512) (h3 : n ≠ 512) (w : World) : Calls Try.prog 19 #[.int .i64 1, .int .i64 n] w fun e w' => e = .returned (.tuple #[.int .i64 0, .int .i64 140]) ∧ w' = w := by
  have g1 : 1 < n := by omega
  have g2 : 2 < n := by omega
  have g4 : 4 < n := by omega
  have g8 : 8 < n := by omega
  have g16 : 16 < n := by omega
  have g32 : 32 < n := by omega
  have g64 : 64 < n := by omega
  have g128 : 128 < n := by omega
  have g256 : 256 < n := by omega
  have h4 : (512 : Int) ≠ n := fun e => h3 e.symm
  have h5 : ((512 : Int) == n) = false := by simpa using h4
  have h6 : (n == (512 : Int)) = false := by simpa using h3
  clear h1 h2 h3
  go_enter Try.func19, Try.ntmps19
  go_wp2
  refine wp_loop_rounds 10 ?_
  rw [rounds_succ]; go_wp2
  rw [rounds_succ]; go_wp2
  rw [rounds_succ]; go_wp2
  rw [rounds_succ]; go_wp2
  rw [rounds_succ]; go_wp2
  rw [rounds_succ]; go_wp2
  rw [rounds_succ]; go_wp2
  rw [rounds_succ]; go_wp2
  rw [rounds_succ]; go_wp2
  rw [rounds_succ]; go_wp2
  go_ret2
  exact ⟨rfl, rfl⟩

set_option maxRecDepth 100000 in
set_option maxHeartbeats 1000000 in
theorem rsz_10 (n : Int) (h1 : 512 < n) (h3 : n ≠ 512) (w : World) : Calls Try.prog 19 #[.int .i64 1, .int .i64 n] w fun e w' => e = .returned (.tuple #[.int .i64 0, .int .i64 140]) ∧ w' = w := by
  have g1 : 1 < n := by omega
  have g2 : 2 < n := by omega
  have g4 : 4 < n := by omega
  have g8 : 8 < n := by omega
  have g16 : 16 < n := by omega
  have g32 : 32 < n := by omega
  have g64 : 64 < n := by omega
  have g128 : 128 < n := by omega
  have g256 : 256 < n := by omega
  have h4 : (512 : Int) ≠ n := fun e => h3 e.symm
  have h5 : ((512 : Int) == n) = false := by simpa using h4
  have h6 : (n == (512 : Int)) = false := by simpa using h3
  clear h1 h3
  go_enter Try.func19, Try.ntmps19
  go_wp2
  refine wp_loop_rounds 10 ?_
  rw [rounds_succ]; go_wp2
  rw [rounds_succ]; go_wp2
  rw [rounds_succ]; go_wp2
  rw [rounds_succ]; go_wp2
  rw [rounds_succ]; go_wp2
  rw [rounds_succ]; go_wp2
  rw [rounds_succ]; go_wp2
  rw [rounds_succ]; go_wp2
  rw [rounds_succ]; go_wp2
  rw [rounds_succ]; go_wp2
  go_ret2
  exact ⟨rfl, rfl⟩

theorem sz2_not {n : Int} (h : n ≠ 1 ∧ n ≠ 2 ∧ n ≠ 4 ∧ n ≠ 8 ∧ n ≠ 16 ∧ n ≠ 32 ∧ n ≠ 64 ∧ n ≠ 128 ∧ n ≠ 256 ∧ n ≠ 512) : sz2 n = false := by
  cases hs : sz2 n with
  | false => rfl
  | true => have := sz2_cases hs; omega

theorem rsize_any (k n : Int) (w : World) : Calls Try.prog 19 #[.int .i64 k, .int .i64 n] w fun e w' => e = .returned (.tuple #[.int .i64 (sizV k n), .int .i64 (sizE k n)]) ∧ w' = w := by
  by_cases h1 : k = 1
  · subst h1
    unfold sizV sizE
    rw [if_pos rfl]
    by_cases h : n = 1 ∨ n = 2 ∨ n = 4 ∨ n = 8 ∨ n = 16 ∨ n = 32 ∨ n = 64 ∨ n = 128 ∨ n = 256 ∨ n = 512
    · rcases h with rfl | rfl | rfl | rfl | rfl | rfl | rfl | rfl | rfl | rfl
      · exact rsz_0e w
      · exact rsz_1e w
      · exact rsz_2e w
      · exact rsz_3e w
      · exact rsz_4e w
      · exact rsz_5e w
      · exact rsz_6e w
      · exact rsz_7e w
      · exact rsz_8e w
      · exact rsz_9e w
    · have hs : sz2 n = false := sz2_not (by omega)
      rw [hs]
      by_cases c0 : n ≤ 1
      · exact rsz_0 n c0 (by omega) w
      by_cases c1 : n ≤ 2
      · exfalso; omega
      by_cases c2 : n ≤ 4
      · exact rsz_2 n (by omega) c2 (by omega) w
      by_cases c3 : n ≤ 8
      · exact rsz_3 n (by omega) c3 (by omega) w
      by_cases c4 : n ≤ 16
      · exact rsz_4 n (by omega) c4 (by omega) w
      by_cases c5 : n ≤ 32
      · exact rsz_5 n (by omega) c5 (by omega) w
      by_cases c6 : n ≤ 64
      · exact rsz_6 n (by omega) c6 (by omega) w
      by_cases c7 : n ≤ 128
      · exact rsz_7 n (by omega) c7 (by omega) w
      by_cases c8 : n ≤ 256
      · exact rsz_8 n (by omega) c8 (by omega) w
      by_cases c9 : n ≤ 512
      · exact rsz_9 n (by omega) c9 (by omega) w
      exact rsz_10 n (by omega) (by omega) w
  · by_cases h2 : 2 ≤ k ∧ k ≤ 8
    · unfold sizV sizE
      rw [if_neg h1, if_pos h2]
      obtain ⟨a1, a2⟩ := h2
      have b1 : (k == 1) = false := by simpa using h1
      by_cases hn : n = 1
      · subst hn
        rw [if_pos rfl, if_pos rfl]
        go_enter Try.func19, Try.ntmps19
        go_wp2
        go_ret2
        exact ⟨rfl, rfl⟩
      · rw [if_neg hn, if_neg (by decide)]
        have hb : (n == 1) = false := by simpa using hn
        go_enter Try.func19, Try.ntmps19
        go_wp2
        go_ret2
        exact ⟨rfl, rfl⟩
    · unfold sizV sizE
      rw [if_neg h1, if_neg h2, if_neg (by decide)]
      have b1 : (k == 1) = false := by simpa using h1
      by_cases a1 : k < 2
      · clear h2
        go_enter Try.func19, Try.ntmps19
        go_wp2
        go_ret2
        exact ⟨rfl, rfl⟩
      · have a2 : 8 < k := by omega
        clear h2
        go_enter Try.func19, Try.ntmps19
        go_wp2
        go_ret2
        exact ⟨rfl, rfl⟩

end Go.Proofs.Ytcmhndkbcfpbbaa
