/-
  The walk of the law PteIndices: a page is its two indices, and no two pages have both: for every two numbers the law returns true and nothing old turns.
-/
import Derived.Test.YtefjincghkdeiaaPteAwake
namespace Go.Proofs.Ytefjincghkdeiaa
open Go.RowKit

theorem idx_out (page level : Int) (w : World) (h : page < 0 ∨ 1023 < page) : Calls Try.prog 16 #[.int .i64 page, .int .i64 level] w fun e w' => e = .returned (.int .i64 0) ∧ w = w' := index_out page level w h
theorem idx_0 (page : Int) (w : World) (h0 : 0 ≤ page) (h1 : page ≤ 1023) : Calls Try.prog 16 #[.int .i64 page, .int .i64 0] w fun e w' => e = .returned (.int .i64 (page / 32)) ∧ w = w' := by
  have := index_in page 0 w h0 h1
  rwa [if_pos rfl] at this
theorem idx_1 (page : Int) (w : World) (h0 : 0 ≤ page) (h1 : page ≤ 1023) : Calls Try.prog 16 #[.int .i64 page, .int .i64 1] w fun e w' => e = .returned (.int .i64 (page % 32)) ∧ w = w' := by
  have := index_in page 1 w h0 h1
  rwa [if_neg (by omega), if_pos rfl] at this

set_option maxHeartbeats 800000 in
theorem ind_lo (page other : Int) (w : World) (h : page < 0) :
    Calls Try.prog 8 #[.int .i64 page, .int .i64 other] w fun e w' => e = .returned (.bool true) ∧ Fr none' w w' := by
  have HP : Hid (page < 0 ∨ 1023 < page) := by unfold Hid; omega
  have t1 : decide (page < 0) = true := by simpa using h
  clear h
  go_enter Try.func8, Try.ntmps8
  go_wp2_with fail
  refine (awake_any _).mono ?_
  rintro e w1 ⟨rfl, f1⟩
  go_wp2_with fail
  refine (idx_out _ _ _ HP).mono ?_
  rintro e w2 ⟨rfl, rfl⟩
  go_wp2_with fail
  refine (idx_out _ _ _ HP).mono ?_
  rintro e w2 ⟨rfl, rfl⟩
  go_wp2_with fail
  refine (index_any _ _ _).mono ?_
  rintro e w2 ⟨rfl, rfl⟩
  go_wp2_with fail
  refine (index_any _ _ _).mono ?_
  rintro e w2 ⟨rfl, rfl⟩
  go_wp2_with fail
  go_ret
  exact ⟨rfl, f1⟩

set_option maxHeartbeats 800000 in
theorem ind_hi (page other : Int) (w : World) (h : 1023 < page) :
    Calls Try.prog 8 #[.int .i64 page, .int .i64 other] w fun e w' => e = .returned (.bool true) ∧ Fr none' w w' := by
  have HP : Hid (page < 0 ∨ 1023 < page) := by unfold Hid; omega
  have t1 : decide (page < 0) = false := by simp; omega
  have t2 : decide (1023 < page) = true := by simpa using h
  clear h
  go_enter Try.func8, Try.ntmps8
  go_wp2_with fail
  refine (awake_any _).mono ?_
  rintro e w1 ⟨rfl, f1⟩
  go_wp2_with fail
  refine (idx_out _ _ _ HP).mono ?_
  rintro e w2 ⟨rfl, rfl⟩
  go_wp2_with fail
  refine (idx_out _ _ _ HP).mono ?_
  rintro e w2 ⟨rfl, rfl⟩
  go_wp2_with fail
  refine (index_any _ _ _).mono ?_
  rintro e w2 ⟨rfl, rfl⟩
  go_wp2_with fail
  refine (index_any _ _ _).mono ?_
  rintro e w2 ⟨rfl, rfl⟩
  go_wp2_with fail
  go_ret
  exact ⟨rfl, f1⟩

set_option maxHeartbeats 800000 in
theorem ind_olo (page other : Int) (w : World) (h0 : 0 ≤ page) (h1 : page ≤ 1023) (h : other < 0) :
    Calls Try.prog 8 #[.int .i64 page, .int .i64 other] w fun e w' => e = .returned (.bool true) ∧ Fr none' w w' := by
  have HP0 : Hid (0 ≤ page) := h0
  have HP1 : Hid (page ≤ 1023) := h1
  have t1 : decide (page < 0) = false := by simp; omega
  have t2 : decide (1023 < page) = false := by simp; omega
  have t3 : decide (page / 32 < 0) = false := by simp; omega
  have t4 : decide (31 < page / 32) = false := by simp; omega
  have t5 : decide (page % 32 < 0) = false := by simp; omega
  have t6 : decide (31 < page % 32) = false := by simp; omega
  have t7 : (32 * (page / 32) + page % 32 != page) = false := by simp; omega
  have u1 : -9223372036854775808 ≤ 32 * (page / 32) := by omega
  have u2 : 32 * (page / 32) ≤ 9223372036854775807 := by omega
  have u3 : -9223372036854775808 ≤ 32 * (page / 32) + page % 32 := by omega
  have u4 : 32 * (page / 32) + page % 32 ≤ 9223372036854775807 := by omega
  have v1 : decide (other < 0) = true := by simpa using h
  clear h0 h1 h
  go_enter Try.func8, Try.ntmps8
  go_wp2_with fail
  refine (awake_any _).mono ?_
  rintro e w1 ⟨rfl, f1⟩
  go_wp2_with fail
  refine (idx_0 _ _ HP0 HP1).mono ?_
  rintro e w2 ⟨rfl, rfl⟩
  go_wp2_with fail
  refine (idx_1 _ _ HP0 HP1).mono ?_
  rintro e w2 ⟨rfl, rfl⟩
  go_wp2_with fail
  refine (index_any _ _ _).mono ?_
  rintro e w2 ⟨rfl, rfl⟩
  go_wp2_with fail
  refine (index_any _ _ _).mono ?_
  rintro e w2 ⟨rfl, rfl⟩
  go_wp2_with fail
  go_ret
  exact ⟨rfl, f1⟩

set_option maxHeartbeats 800000 in
theorem ind_ohi (page other : Int) (w : World) (h0 : 0 ≤ page) (h1 : page ≤ 1023) (h : 1023 < other) :
    Calls Try.prog 8 #[.int .i64 page, .int .i64 other] w fun e w' => e = .returned (.bool true) ∧ Fr none' w w' := by
  have HP0 : Hid (0 ≤ page) := h0
  have HP1 : Hid (page ≤ 1023) := h1
  have t1 : decide (page < 0) = false := by simp; omega
  have t2 : decide (1023 < page) = false := by simp; omega
  have t3 : decide (page / 32 < 0) = false := by simp; omega
  have t4 : decide (31 < page / 32) = false := by simp; omega
  have t5 : decide (page % 32 < 0) = false := by simp; omega
  have t6 : decide (31 < page % 32) = false := by simp; omega
  have t7 : (32 * (page / 32) + page % 32 != page) = false := by simp; omega
  have u1 : -9223372036854775808 ≤ 32 * (page / 32) := by omega
  have u2 : 32 * (page / 32) ≤ 9223372036854775807 := by omega
  have u3 : -9223372036854775808 ≤ 32 * (page / 32) + page % 32 := by omega
  have u4 : 32 * (page / 32) + page % 32 ≤ 9223372036854775807 := by omega
  have v1 : decide (other < 0) = false := by simp; omega
  have v2 : decide (1023 < other) = true := by simpa using h
  clear h0 h1 h
  go_enter Try.func8, Try.ntmps8
  go_wp2_with fail
  refine (awake_any _).mono ?_
  rintro e w1 ⟨rfl, f1⟩
  go_wp2_with fail
  refine (idx_0 _ _ HP0 HP1).mono ?_
  rintro e w2 ⟨rfl, rfl⟩
  go_wp2_with fail
  refine (idx_1 _ _ HP0 HP1).mono ?_
  rintro e w2 ⟨rfl, rfl⟩
  go_wp2_with fail
  refine (index_any _ _ _).mono ?_
  rintro e w2 ⟨rfl, rfl⟩
  go_wp2_with fail
  refine (index_any _ _ _).mono ?_
  rintro e w2 ⟨rfl, rfl⟩
  go_wp2_with fail
  go_ret
  exact ⟨rfl, f1⟩

set_option maxHeartbeats 800000 in
theorem ind_same (page other : Int) (w : World) (h0 : 0 ≤ page) (h1 : page ≤ 1023) (h2 : 0 ≤ other) (h3 : other ≤ 1023) (h : page = other) :
    Calls Try.prog 8 #[.int .i64 page, .int .i64 other] w fun e w' => e = .returned (.bool true) ∧ Fr none' w w' := by
  have HP0 : Hid (0 ≤ page) := h0
  have HP1 : Hid (page ≤ 1023) := h1
  have t1 : decide (page < 0) = false := by simp; omega
  have t2 : decide (1023 < page) = false := by simp; omega
  have t3 : decide (page / 32 < 0) = false := by simp; omega
  have t4 : decide (31 < page / 32) = false := by simp; omega
  have t5 : decide (page % 32 < 0) = false := by simp; omega
  have t6 : decide (31 < page % 32) = false := by simp; omega
  have t7 : (32 * (page / 32) + page % 32 != page) = false := by simp; omega
  have u1 : -9223372036854775808 ≤ 32 * (page / 32) := by omega
  have u2 : 32 * (page / 32) ≤ 9223372036854775807 := by omega
  have u3 : -9223372036854775808 ≤ 32 * (page / 32) + page % 32 := by omega
  have u4 : 32 * (page / 32) + page % 32 ≤ 9223372036854775807 := by omega
  have HO0 : Hid (0 ≤ other) := h2
  have HO1 : Hid (other ≤ 1023) := h3
  have v1 : decide (other < 0) = false := by simp; omega
  have v2 : decide (1023 < other) = false := by simp; omega
  have v3 : (page / 32 == other / 32) = true := by simp [h]
  have v4 : (page % 32 == other % 32) = true := by simp [h]
  have v5 : (page == other) = true := by simpa using h
  clear h0 h1 h2 h3 h
  go_enter Try.func8, Try.ntmps8
  go_wp2_with fail
  refine (awake_any _).mono ?_
  rintro e w1 ⟨rfl, f1⟩
  go_wp2_with fail
  refine (idx_0 _ _ HP0 HP1).mono ?_
  rintro e w2 ⟨rfl, rfl⟩
  go_wp2_with fail
  refine (idx_1 _ _ HP0 HP1).mono ?_
  rintro e w2 ⟨rfl, rfl⟩
  go_wp2_with fail
  refine (idx_0 _ _ HO0 HO1).mono ?_
  rintro e w2 ⟨rfl, rfl⟩
  go_wp2_with fail
  refine (idx_1 _ _ HO0 HO1).mono ?_
  rintro e w2 ⟨rfl, rfl⟩
  go_wp2_with fail
  go_ret
  exact ⟨rfl, f1⟩

set_option maxHeartbeats 800000 in
theorem ind_a (page other : Int) (w : World) (h0 : 0 ≤ page) (h1 : page ≤ 1023) (h2 : 0 ≤ other) (h3 : other ≤ 1023) (h : page / 32 ≠ other / 32) :
    Calls Try.prog 8 #[.int .i64 page, .int .i64 other] w fun e w' => e = .returned (.bool true) ∧ Fr none' w w' := by
  have HP0 : Hid (0 ≤ page) := h0
  have HP1 : Hid (page ≤ 1023) := h1
  have t1 : decide (page < 0) = false := by simp; omega
  have t2 : decide (1023 < page) = false := by simp; omega
  have t3 : decide (page / 32 < 0) = false := by simp; omega
  have t4 : decide (31 < page / 32) = false := by simp; omega
  have t5 : decide (page % 32 < 0) = false := by simp; omega
  have t6 : decide (31 < page % 32) = false := by simp; omega
  have t7 : (32 * (page / 32) + page % 32 != page) = false := by simp; omega
  have u1 : -9223372036854775808 ≤ 32 * (page / 32) := by omega
  have u2 : 32 * (page / 32) ≤ 9223372036854775807 := by omega
  have u3 : -9223372036854775808 ≤ 32 * (page / 32) + page % 32 := by omega
  have u4 : 32 * (page / 32) + page % 32 ≤ 9223372036854775807 := by omega
  have HO0 : Hid (0 ≤ other) := h2
  have HO1 : Hid (other ≤ 1023) := h3
  have v1 : decide (other < 0) = false := by simp; omega
  have v2 : decide (1023 < other) = false := by simp; omega
  have v3 : (page / 32 == other / 32) = false := by simpa using h
  have v5 : (page == other) = false := by simp; intro e; exact h (by rw [e])
  clear h0 h1 h2 h3 h
  go_enter Try.func8, Try.ntmps8
  go_wp2_with fail
  refine (awake_any _).mono ?_
  rintro e w1 ⟨rfl, f1⟩
  go_wp2_with fail
  refine (idx_0 _ _ HP0 HP1).mono ?_
  rintro e w2 ⟨rfl, rfl⟩
  go_wp2_with fail
  refine (idx_1 _ _ HP0 HP1).mono ?_
  rintro e w2 ⟨rfl, rfl⟩
  go_wp2_with fail
  refine (idx_0 _ _ HO0 HO1).mono ?_
  rintro e w2 ⟨rfl, rfl⟩
  go_wp2_with fail
  refine (idx_1 _ _ HO0 HO1).mono ?_
  rintro e w2 ⟨rfl, rfl⟩
  go_wp2_with fail
  go_ret
  exact ⟨rfl, f1⟩

set_option maxHeartbeats 800000 in
theorem ind_b (page other : Int) (w : World) (h0 : 0 ≤ page) (h1 : page ≤ 1023) (h2 : 0 ≤ other) (h3 : other ≤ 1023) (h : page / 32 = other / 32) (h4 : page % 32 ≠ other % 32) :
    Calls Try.prog 8 #[.int .i64 page, .int .i64 other] w fun e w' => e = .returned (.bool true) ∧ Fr none' w w' := by
  have HP0 : Hid (0 ≤ page) := h0
  have HP1 : Hid (page ≤ 1023) := h1
  have t1 : decide (page < 0) = false := by simp; omega
  have t2 : decide (1023 < page) = false := by simp; omega
  have t3 : decide (page / 32 < 0) = false := by simp; omega
  have t4 : decide (31 < page / 32) = false := by simp; omega
  have t5 : decide (page % 32 < 0) = false := by simp; omega
  have t6 : decide (31 < page % 32) = false := by simp; omega
  have t7 : (32 * (page / 32) + page % 32 != page) = false := by simp; omega
  have u1 : -9223372036854775808 ≤ 32 * (page / 32) := by omega
  have u2 : 32 * (page / 32) ≤ 9223372036854775807 := by omega
  have u3 : -9223372036854775808 ≤ 32 * (page / 32) + page % 32 := by omega
  have u4 : 32 * (page / 32) + page % 32 ≤ 9223372036854775807 := by omega
  have HO0 : Hid (0 ≤ other) := h2
  have HO1 : Hid (other ≤ 1023) := h3
  have v1 : decide (other < 0) = false := by simp; omega
  have v2 : decide (1023 < other) = false := by simp; omega
  have v3 : (page / 32 == other / 32) = true := by simpa using h
  have v4 : (page % 32 == other % 32) = false := by simpa using h4
  have v5 : (page == other) = false := by simp; intro e; exact h4 (by rw [e])
  clear h0 h1 h2 h3 h h4
  go_enter Try.func8, Try.ntmps8
  go_wp2_with fail
  refine (awake_any _).mono ?_
  rintro e w1 ⟨rfl, f1⟩
  go_wp2_with fail
  refine (idx_0 _ _ HP0 HP1).mono ?_
  rintro e w2 ⟨rfl, rfl⟩
  go_wp2_with fail
  refine (idx_1 _ _ HP0 HP1).mono ?_
  rintro e w2 ⟨rfl, rfl⟩
  go_wp2_with fail
  refine (idx_0 _ _ HO0 HO1).mono ?_
  rintro e w2 ⟨rfl, rfl⟩
  go_wp2_with fail
  refine (idx_1 _ _ HO0 HO1).mono ?_
  rintro e w2 ⟨rfl, rfl⟩
  go_wp2_with fail
  go_ret
  exact ⟨rfl, f1⟩

theorem indices_any (page other : Int) (w : World) :
    Calls Try.prog 8 #[.int .i64 page, .int .i64 other] w fun e w' => e = .returned (.bool true) ∧ Below w.heap.size w w' := by
  have key : Calls Try.prog 8 #[.int .i64 page, .int .i64 other] w fun e w' => e = .returned (.bool true) ∧ Fr none' w w' := by
    by_cases a : page < 0
    · exact ind_lo page other w a
    by_cases b : 1023 < page
    · exact ind_hi page other w b
    by_cases c : other < 0
    · exact ind_olo page other w (by omega) (by omega) c
    by_cases d : 1023 < other
    · exact ind_ohi page other w (by omega) (by omega) d
    by_cases e : page = other
    · exact ind_same page other w (by omega) (by omega) (by omega) (by omega) e
    by_cases g : page / 32 = other / 32
    · exact ind_b page other w (by omega) (by omega) (by omega) (by omega) g (by omega)
    · exact ind_a page other w (by omega) (by omega) (by omega) (by omega) g
  exact key.mono fun e w' ⟨he, hf⟩ => ⟨he, hf.below (Nat.le_refl _) (fun k h => h.elim)⟩

end Go.Proofs.Ytefjincghkdeiaa
