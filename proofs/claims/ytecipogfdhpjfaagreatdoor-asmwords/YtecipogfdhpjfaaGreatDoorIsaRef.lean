/-
  The contracts of the document's has, field, Right, Encode and Decode (package viceroyref05) over the translation, said of plain numbers. No statement is proved here.
-/
import Derived.Test.YtecipogfdhpjfaaGreatDoorIsaEnc
namespace Go.Proofs.YtecipogfdhpjfaaGreatDoor
open Go.RowKit

/-- Has form k the sign c? -/
def hasC (k c : Nat) : Bool := inP k (fsz k) c

set_option maxHeartbeats 400000 in
theorem has_0_97 (w : World) : Calls Tryz.prog 74 #[.string ⟨#[]⟩, .int .u8 97] w fun e w' => e = .returned (.bool false) ∧ w = w' := by
  go_enter Tryz.func74, Tryz.ntmps74
  go_wp2_with fail
  refine wp_loop_rounds 1 ?_
  rw [rounds_succ]; go_wp2
  go_ret
  exact ⟨rfl, rfl⟩

set_option maxHeartbeats 400000 in
theorem has_0_98 (w : World) : Calls Tryz.prog 74 #[.string ⟨#[]⟩, .int .u8 98] w fun e w' => e = .returned (.bool false) ∧ w = w' := by
  go_enter Tryz.func74, Tryz.ntmps74
  go_wp2_with fail
  refine wp_loop_rounds 1 ?_
  rw [rounds_succ]; go_wp2
  go_ret
  exact ⟨rfl, rfl⟩

set_option maxHeartbeats 400000 in
theorem has_0_99 (w : World) : Calls Tryz.prog 74 #[.string ⟨#[]⟩, .int .u8 99] w fun e w' => e = .returned (.bool false) ∧ w = w' := by
  go_enter Tryz.func74, Tryz.ntmps74
  go_wp2_with fail
  refine wp_loop_rounds 1 ?_
  rw [rounds_succ]; go_wp2
  go_ret
  exact ⟨rfl, rfl⟩

set_option maxHeartbeats 400000 in
theorem has_0_105 (w : World) : Calls Tryz.prog 74 #[.string ⟨#[]⟩, .int .u8 105] w fun e w' => e = .returned (.bool false) ∧ w = w' := by
  go_enter Tryz.func74, Tryz.ntmps74
  go_wp2_with fail
  refine wp_loop_rounds 1 ?_
  rw [rounds_succ]; go_wp2
  go_ret
  exact ⟨rfl, rfl⟩

set_option maxHeartbeats 400000 in
theorem has_1_97 (w : World) : Calls Tryz.prog 74 #[.string ⟨#[97, 105]⟩, .int .u8 97] w fun e w' => e = .returned (.bool true) ∧ w = w' := by
  go_enter Tryz.func74, Tryz.ntmps74
  go_wp2_with fail
  refine wp_loop_rounds 1 ?_
  rw [rounds_succ]; go_wp2
  go_ret
  exact ⟨rfl, rfl⟩

set_option maxHeartbeats 400000 in
theorem has_1_98 (w : World) : Calls Tryz.prog 74 #[.string ⟨#[97, 105]⟩, .int .u8 98] w fun e w' => e = .returned (.bool false) ∧ w = w' := by
  go_enter Tryz.func74, Tryz.ntmps74
  go_wp2_with fail
  refine wp_loop_rounds 3 ?_
  rw [rounds_succ]; go_wp2
  rw [rounds_succ]; go_wp2
  rw [rounds_succ]; go_wp2
  go_ret
  exact ⟨rfl, rfl⟩

set_option maxHeartbeats 400000 in
theorem has_1_99 (w : World) : Calls Tryz.prog 74 #[.string ⟨#[97, 105]⟩, .int .u8 99] w fun e w' => e = .returned (.bool false) ∧ w = w' := by
  go_enter Tryz.func74, Tryz.ntmps74
  go_wp2_with fail
  refine wp_loop_rounds 3 ?_
  rw [rounds_succ]; go_wp2
  rw [rounds_succ]; go_wp2
  rw [rounds_succ]; go_wp2
  go_ret
  exact ⟨rfl, rfl⟩

set_option maxHeartbeats 400000 in
theorem has_1_105 (w : World) : Calls Tryz.prog 74 #[.string ⟨#[97, 105]⟩, .int .u8 105] w fun e w' => e = .returned (.bool true) ∧ w = w' := by
  go_enter Tryz.func74, Tryz.ntmps74
  go_wp2_with fail
  refine wp_loop_rounds 2 ?_
  rw [rounds_succ]; go_wp2
  rw [rounds_succ]; go_wp2
  go_ret
  exact ⟨rfl, rfl⟩

set_option maxHeartbeats 400000 in
theorem has_2_97 (w : World) : Calls Tryz.prog 74 #[.string ⟨#[97, 98, 99]⟩, .int .u8 97] w fun e w' => e = .returned (.bool true) ∧ w = w' := by
  go_enter Tryz.func74, Tryz.ntmps74
  go_wp2_with fail
  refine wp_loop_rounds 1 ?_
  rw [rounds_succ]; go_wp2
  go_ret
  exact ⟨rfl, rfl⟩

set_option maxHeartbeats 400000 in
theorem has_2_98 (w : World) : Calls Tryz.prog 74 #[.string ⟨#[97, 98, 99]⟩, .int .u8 98] w fun e w' => e = .returned (.bool true) ∧ w = w' := by
  go_enter Tryz.func74, Tryz.ntmps74
  go_wp2_with fail
  refine wp_loop_rounds 2 ?_
  rw [rounds_succ]; go_wp2
  rw [rounds_succ]; go_wp2
  go_ret
  exact ⟨rfl, rfl⟩

set_option maxHeartbeats 400000 in
theorem has_2_99 (w : World) : Calls Tryz.prog 74 #[.string ⟨#[97, 98, 99]⟩, .int .u8 99] w fun e w' => e = .returned (.bool true) ∧ w = w' := by
  go_enter Tryz.func74, Tryz.ntmps74
  go_wp2_with fail
  refine wp_loop_rounds 3 ?_
  rw [rounds_succ]; go_wp2
  rw [rounds_succ]; go_wp2
  rw [rounds_succ]; go_wp2
  go_ret
  exact ⟨rfl, rfl⟩

set_option maxHeartbeats 400000 in
theorem has_2_105 (w : World) : Calls Tryz.prog 74 #[.string ⟨#[97, 98, 99]⟩, .int .u8 105] w fun e w' => e = .returned (.bool false) ∧ w = w' := by
  go_enter Tryz.func74, Tryz.ntmps74
  go_wp2_with fail
  refine wp_loop_rounds 4 ?_
  rw [rounds_succ]; go_wp2
  rw [rounds_succ]; go_wp2
  rw [rounds_succ]; go_wp2
  rw [rounds_succ]; go_wp2
  go_ret
  exact ⟨rfl, rfl⟩

set_option maxHeartbeats 400000 in
theorem has_3_97 (w : World) : Calls Tryz.prog 74 #[.string ⟨#[97, 98, 105]⟩, .int .u8 97] w fun e w' => e = .returned (.bool true) ∧ w = w' := by
  go_enter Tryz.func74, Tryz.ntmps74
  go_wp2_with fail
  refine wp_loop_rounds 1 ?_
  rw [rounds_succ]; go_wp2
  go_ret
  exact ⟨rfl, rfl⟩

set_option maxHeartbeats 400000 in
theorem has_3_98 (w : World) : Calls Tryz.prog 74 #[.string ⟨#[97, 98, 105]⟩, .int .u8 98] w fun e w' => e = .returned (.bool true) ∧ w = w' := by
  go_enter Tryz.func74, Tryz.ntmps74
  go_wp2_with fail
  refine wp_loop_rounds 2 ?_
  rw [rounds_succ]; go_wp2
  rw [rounds_succ]; go_wp2
  go_ret
  exact ⟨rfl, rfl⟩

set_option maxHeartbeats 400000 in
theorem has_3_99 (w : World) : Calls Tryz.prog 74 #[.string ⟨#[97, 98, 105]⟩, .int .u8 99] w fun e w' => e = .returned (.bool false) ∧ w = w' := by
  go_enter Tryz.func74, Tryz.ntmps74
  go_wp2_with fail
  refine wp_loop_rounds 4 ?_
  rw [rounds_succ]; go_wp2
  rw [rounds_succ]; go_wp2
  rw [rounds_succ]; go_wp2
  rw [rounds_succ]; go_wp2
  go_ret
  exact ⟨rfl, rfl⟩

set_option maxHeartbeats 400000 in
theorem has_3_105 (w : World) : Calls Tryz.prog 74 #[.string ⟨#[97, 98, 105]⟩, .int .u8 105] w fun e w' => e = .returned (.bool true) ∧ w = w' := by
  go_enter Tryz.func74, Tryz.ntmps74
  go_wp2_with fail
  refine wp_loop_rounds 3 ?_
  rw [rounds_succ]; go_wp2
  rw [rounds_succ]; go_wp2
  rw [rounds_succ]; go_wp2
  go_ret
  exact ⟨rfl, rfl⟩

set_option maxHeartbeats 400000 in
theorem has_4_97 (w : World) : Calls Tryz.prog 74 #[.string ⟨#[105]⟩, .int .u8 97] w fun e w' => e = .returned (.bool false) ∧ w = w' := by
  go_enter Tryz.func74, Tryz.ntmps74
  go_wp2_with fail
  refine wp_loop_rounds 2 ?_
  rw [rounds_succ]; go_wp2
  rw [rounds_succ]; go_wp2
  go_ret
  exact ⟨rfl, rfl⟩

set_option maxHeartbeats 400000 in
theorem has_4_98 (w : World) : Calls Tryz.prog 74 #[.string ⟨#[105]⟩, .int .u8 98] w fun e w' => e = .returned (.bool false) ∧ w = w' := by
  go_enter Tryz.func74, Tryz.ntmps74
  go_wp2_with fail
  refine wp_loop_rounds 2 ?_
  rw [rounds_succ]; go_wp2
  rw [rounds_succ]; go_wp2
  go_ret
  exact ⟨rfl, rfl⟩

set_option maxHeartbeats 400000 in
theorem has_4_99 (w : World) : Calls Tryz.prog 74 #[.string ⟨#[105]⟩, .int .u8 99] w fun e w' => e = .returned (.bool false) ∧ w = w' := by
  go_enter Tryz.func74, Tryz.ntmps74
  go_wp2_with fail
  refine wp_loop_rounds 2 ?_
  rw [rounds_succ]; go_wp2
  rw [rounds_succ]; go_wp2
  go_ret
  exact ⟨rfl, rfl⟩

set_option maxHeartbeats 400000 in
theorem has_4_105 (w : World) : Calls Tryz.prog 74 #[.string ⟨#[105]⟩, .int .u8 105] w fun e w' => e = .returned (.bool true) ∧ w = w' := by
  go_enter Tryz.func74, Tryz.ntmps74
  go_wp2_with fail
  refine wp_loop_rounds 1 ?_
  rw [rounds_succ]; go_wp2
  go_ret
  exact ⟨rfl, rfl⟩

set_option maxHeartbeats 400000 in
theorem has_5_97 (w : World) : Calls Tryz.prog 74 #[.string ⟨#[98]⟩, .int .u8 97] w fun e w' => e = .returned (.bool false) ∧ w = w' := by
  go_enter Tryz.func74, Tryz.ntmps74
  go_wp2_with fail
  refine wp_loop_rounds 2 ?_
  rw [rounds_succ]; go_wp2
  rw [rounds_succ]; go_wp2
  go_ret
  exact ⟨rfl, rfl⟩

set_option maxHeartbeats 400000 in
theorem has_5_98 (w : World) : Calls Tryz.prog 74 #[.string ⟨#[98]⟩, .int .u8 98] w fun e w' => e = .returned (.bool true) ∧ w = w' := by
  go_enter Tryz.func74, Tryz.ntmps74
  go_wp2_with fail
  refine wp_loop_rounds 1 ?_
  rw [rounds_succ]; go_wp2
  go_ret
  exact ⟨rfl, rfl⟩

set_option maxHeartbeats 400000 in
theorem has_5_99 (w : World) : Calls Tryz.prog 74 #[.string ⟨#[98]⟩, .int .u8 99] w fun e w' => e = .returned (.bool false) ∧ w = w' := by
  go_enter Tryz.func74, Tryz.ntmps74
  go_wp2_with fail
  refine wp_loop_rounds 2 ?_
  rw [rounds_succ]; go_wp2
  rw [rounds_succ]; go_wp2
  go_ret
  exact ⟨rfl, rfl⟩

set_option maxHeartbeats 400000 in
theorem has_5_105 (w : World) : Calls Tryz.prog 74 #[.string ⟨#[98]⟩, .int .u8 105] w fun e w' => e = .returned (.bool false) ∧ w = w' := by
  go_enter Tryz.func74, Tryz.ntmps74
  go_wp2_with fail
  refine wp_loop_rounds 2 ?_
  rw [rounds_succ]; go_wp2
  rw [rounds_succ]; go_wp2
  go_ret
  exact ⟨rfl, rfl⟩

set_option maxHeartbeats 400000 in
theorem has_6_97 (w : World) : Calls Tryz.prog 74 #[.string ⟨#[98, 105]⟩, .int .u8 97] w fun e w' => e = .returned (.bool false) ∧ w = w' := by
  go_enter Tryz.func74, Tryz.ntmps74
  go_wp2_with fail
  refine wp_loop_rounds 3 ?_
  rw [rounds_succ]; go_wp2
  rw [rounds_succ]; go_wp2
  rw [rounds_succ]; go_wp2
  go_ret
  exact ⟨rfl, rfl⟩

set_option maxHeartbeats 400000 in
theorem has_6_98 (w : World) : Calls Tryz.prog 74 #[.string ⟨#[98, 105]⟩, .int .u8 98] w fun e w' => e = .returned (.bool true) ∧ w = w' := by
  go_enter Tryz.func74, Tryz.ntmps74
  go_wp2_with fail
  refine wp_loop_rounds 1 ?_
  rw [rounds_succ]; go_wp2
  go_ret
  exact ⟨rfl, rfl⟩

set_option maxHeartbeats 400000 in
theorem has_6_99 (w : World) : Calls Tryz.prog 74 #[.string ⟨#[98, 105]⟩, .int .u8 99] w fun e w' => e = .returned (.bool false) ∧ w = w' := by
  go_enter Tryz.func74, Tryz.ntmps74
  go_wp2_with fail
  refine wp_loop_rounds 3 ?_
  rw [rounds_succ]; go_wp2
  rw [rounds_succ]; go_wp2
  rw [rounds_succ]; go_wp2
  go_ret
  exact ⟨rfl, rfl⟩

set_option maxHeartbeats 400000 in
theorem has_6_105 (w : World) : Calls Tryz.prog 74 #[.string ⟨#[98, 105]⟩, .int .u8 105] w fun e w' => e = .returned (.bool true) ∧ w = w' := by
  go_enter Tryz.func74, Tryz.ntmps74
  go_wp2_with fail
  refine wp_loop_rounds 2 ?_
  rw [rounds_succ]; go_wp2
  rw [rounds_succ]; go_wp2
  go_ret
  exact ⟨rfl, rfl⟩

set_option maxHeartbeats 400000 in
theorem has_7_97 (w : World) : Calls Tryz.prog 74 #[.string ⟨#[97]⟩, .int .u8 97] w fun e w' => e = .returned (.bool true) ∧ w = w' := by
  go_enter Tryz.func74, Tryz.ntmps74
  go_wp2_with fail
  refine wp_loop_rounds 1 ?_
  rw [rounds_succ]; go_wp2
  go_ret
  exact ⟨rfl, rfl⟩

set_option maxHeartbeats 400000 in
theorem has_7_98 (w : World) : Calls Tryz.prog 74 #[.string ⟨#[97]⟩, .int .u8 98] w fun e w' => e = .returned (.bool false) ∧ w = w' := by
  go_enter Tryz.func74, Tryz.ntmps74
  go_wp2_with fail
  refine wp_loop_rounds 2 ?_
  rw [rounds_succ]; go_wp2
  rw [rounds_succ]; go_wp2
  go_ret
  exact ⟨rfl, rfl⟩

set_option maxHeartbeats 400000 in
theorem has_7_99 (w : World) : Calls Tryz.prog 74 #[.string ⟨#[97]⟩, .int .u8 99] w fun e w' => e = .returned (.bool false) ∧ w = w' := by
  go_enter Tryz.func74, Tryz.ntmps74
  go_wp2_with fail
  refine wp_loop_rounds 2 ?_
  rw [rounds_succ]; go_wp2
  rw [rounds_succ]; go_wp2
  go_ret
  exact ⟨rfl, rfl⟩

set_option maxHeartbeats 400000 in
theorem has_7_105 (w : World) : Calls Tryz.prog 74 #[.string ⟨#[97]⟩, .int .u8 105] w fun e w' => e = .returned (.bool false) ∧ w = w' := by
  go_enter Tryz.func74, Tryz.ntmps74
  go_wp2_with fail
  refine wp_loop_rounds 2 ?_
  rw [rounds_succ]; go_wp2
  rw [rounds_succ]; go_wp2
  go_ret
  exact ⟨rfl, rfl⟩

set_option maxHeartbeats 400000 in
theorem has_8_97 (w : World) : Calls Tryz.prog 74 #[.string ⟨#[45]⟩, .int .u8 97] w fun e w' => e = .returned (.bool false) ∧ w = w' := by
  go_enter Tryz.func74, Tryz.ntmps74
  go_wp2_with fail
  refine wp_loop_rounds 2 ?_
  rw [rounds_succ]; go_wp2
  rw [rounds_succ]; go_wp2
  go_ret
  exact ⟨rfl, rfl⟩

set_option maxHeartbeats 400000 in
theorem has_8_98 (w : World) : Calls Tryz.prog 74 #[.string ⟨#[45]⟩, .int .u8 98] w fun e w' => e = .returned (.bool false) ∧ w = w' := by
  go_enter Tryz.func74, Tryz.ntmps74
  go_wp2_with fail
  refine wp_loop_rounds 2 ?_
  rw [rounds_succ]; go_wp2
  rw [rounds_succ]; go_wp2
  go_ret
  exact ⟨rfl, rfl⟩

set_option maxHeartbeats 400000 in
theorem has_8_99 (w : World) : Calls Tryz.prog 74 #[.string ⟨#[45]⟩, .int .u8 99] w fun e w' => e = .returned (.bool false) ∧ w = w' := by
  go_enter Tryz.func74, Tryz.ntmps74
  go_wp2_with fail
  refine wp_loop_rounds 2 ?_
  rw [rounds_succ]; go_wp2
  rw [rounds_succ]; go_wp2
  go_ret
  exact ⟨rfl, rfl⟩

set_option maxHeartbeats 400000 in
theorem has_8_105 (w : World) : Calls Tryz.prog 74 #[.string ⟨#[45]⟩, .int .u8 105] w fun e w' => e = .returned (.bool false) ∧ w = w' := by
  go_enter Tryz.func74, Tryz.ntmps74
  go_wp2_with fail
  refine wp_loop_rounds 2 ?_
  rw [rounds_succ]; go_wp2
  rw [rounds_succ]; go_wp2
  go_ret
  exact ⟨rfl, rfl⟩

theorem has_any (k c : Nat) (hk : k < 9) (hc : c = 97 ∨ c = 98 ∨ c = 99 ∨ c = 105) (w : World) : Calls Tryz.prog 74 #[.string (fs k), .int .u8 (c : Int)] w fun e w' => e = .returned (.bool (hasC k c)) ∧ w = w' := by
  have hk' : k = 0 ∨ k = 1 ∨ k = 2 ∨ k = 3 ∨ k = 4 ∨ k = 5 ∨ k = 6 ∨ k = 7 ∨ k = 8 := by omega
  rcases hk' with rfl | rfl | rfl | rfl | rfl | rfl | rfl | rfl | rfl
  · rcases hc with rfl | rfl | rfl | rfl
    · exact has_0_97 w
    · exact has_0_98 w
    · exact has_0_99 w
    · exact has_0_105 w
  · rcases hc with rfl | rfl | rfl | rfl
    · exact has_1_97 w
    · exact has_1_98 w
    · exact has_1_99 w
    · exact has_1_105 w
  · rcases hc with rfl | rfl | rfl | rfl
    · exact has_2_97 w
    · exact has_2_98 w
    · exact has_2_99 w
    · exact has_2_105 w
  · rcases hc with rfl | rfl | rfl | rfl
    · exact has_3_97 w
    · exact has_3_98 w
    · exact has_3_99 w
    · exact has_3_105 w
  · rcases hc with rfl | rfl | rfl | rfl
    · exact has_4_97 w
    · exact has_4_98 w
    · exact has_4_99 w
    · exact has_4_105 w
  · rcases hc with rfl | rfl | rfl | rfl
    · exact has_5_97 w
    · exact has_5_98 w
    · exact has_5_99 w
    · exact has_5_105 w
  · rcases hc with rfl | rfl | rfl | rfl
    · exact has_6_97 w
    · exact has_6_98 w
    · exact has_6_99 w
    · exact has_6_105 w
  · rcases hc with rfl | rfl | rfl | rfl
    · exact has_7_97 w
    · exact has_7_98 w
    · exact has_7_99 w
    · exact has_7_105 w
  · rcases hc with rfl | rfl | rfl | rfl
    · exact has_8_97 w
    · exact has_8_98 w
    · exact has_8_99 w
    · exact has_8_105 w

set_option maxHeartbeats 400000 in
theorem field_any (k c : Nat) (hk : k < 9) (hc : c = 97 ∨ c = 98 ∨ c = 99 ∨ c = 105) (n m : Int) (w : World) : Calls Tryz.prog 51 #[.string (fs k), .int .u8 (c : Int), .int .i64 n, .int .i64 m] w fun e w' => e = .returned (.bool (fld (hasC k c) n m)) ∧ w = w' := by
  have H := has_any k c hk hc w
  unfold fld
  cases h : hasC k c
  · rw [h] at H
    go_enter Tryz.func51, Tryz.ntmps51
    go_wp2_with (go_at_call 74; refine H.mono ?_; rintro e w1 ⟨rfl, rfl⟩; clear H)
    go_ret
    exact ⟨rfl, rfl⟩
  · rw [h] at H
    by_cases h0 : 0 ≤ n
    · have t1 : decide (0 ≤ n) = true := by simpa using h0
      rw [t1]
      go_enter Tryz.func51, Tryz.ntmps51
      go_wp2_with (go_at_call 74; refine H.mono ?_; rintro e w1 ⟨rfl, rfl⟩; clear H)
      go_ret
      exact ⟨ret_bool (by simp), rfl⟩
    · have t1 : decide (0 ≤ n) = false := by simpa using h0
      rw [t1]
      go_enter Tryz.func51, Tryz.ntmps51
      go_wp2_with (go_at_call 74; refine H.mono ?_; rintro e w1 ⟨rfl, rfl⟩; clear H)
      go_ret
      exact ⟨rfl, rfl⟩

theorem fa_A (k : Nat) (hk : k < 9) (n : Int) (w : World) : Calls Tryz.prog 51 #[.string (fs k), .int .u8 97, .int .i64 n, .int .i64 15] w fun e w' => e = .returned (.bool (fld (hA k) n 15)) ∧ w = w' := by
  have := field_any k 97 hk (by omega) n 15 w
  rwa [show hasC k 97 = hA k from (inP_end k hk).1] at this
theorem fa_B (k : Nat) (hk : k < 9) (n : Int) (w : World) : Calls Tryz.prog 51 #[.string (fs k), .int .u8 98, .int .i64 n, .int .i64 15] w fun e w' => e = .returned (.bool (fld (hB k) n 15)) ∧ w = w' := by
  have := field_any k 98 hk (by omega) n 15 w
  rwa [show hasC k 98 = hB k from (inP_end k hk).2.1] at this
theorem fa_C (k : Nat) (hk : k < 9) (n : Int) (w : World) : Calls Tryz.prog 51 #[.string (fs k), .int .u8 99, .int .i64 n, .int .i64 15] w fun e w' => e = .returned (.bool (fld (hC k) n 15)) ∧ w = w' := by
  have := field_any k 99 hk (by omega) n 15 w
  rwa [show hasC k 99 = hC k from (inP_end k hk).2.2.1] at this
theorem fa_I (k : Nat) (hk : k < 9) (n : Int) (w : World) : Calls Tryz.prog 51 #[.string (fs k), .int .u8 105, .int .i64 n, .int .i64 65535] w fun e w' => e = .returned (.bool (fld (hI k) n 65535)) ∧ w = w' := by
  have := field_any k 105 hk (by omega) n 65535 w
  rwa [show hasC k 105 = hI k from (inP_end k hk).2.2.2] at this
theorem has_C (k : Nat) (hk : k < 9) (w : World) : Calls Tryz.prog 74 #[.string (fs k), .int .u8 99] w fun e w' => e = .returned (.bool (hC k)) ∧ w = w' := by
  have := has_any k 99 hk (by omega) w
  rwa [show hasC k 99 = hC k from (inP_end k hk).2.2.1] at this

theorem and4 (p q r s t : Bool) : (p && q && r && s && t) = (if p then if q then if r then if s then t else false else false else false else false) := by cases p <;> cases q <;> cases r <;> cases s <;> rfl

set_option maxHeartbeats 1600000 in
theorem rright_any (o a b c i : Int) (w : World) :
    Calls Tryz.prog 31 #[.agg #[.int .i64 o, .int .i64 a, .int .i64 b, .int .i64 c, .int .i64 i]] w fun e w' => e = .returned (.bool (rightI o a b c i)) ∧ Fr none' w w' := by
  have f0 := (Fr.refl none' w).alloc (.cells (ibox o a b c i) 46)
  have hk : kf o < 9 := by have := kf_le o; omega
  have hz : (fs (kf o)).toList.isEmpty = (kf o == 0) := by
    cases h : (kf o == 0)
    · exact fs_ne hk (by simpa using h)
    · rw [show kf o = 0 by simpa using h]; decide +kernel
  unfold ibox at f0
  unfold rightI
  rw [show (kf o != 0) = !(kf o == 0) from rfl]
  have KA := fa_A (kf o) hk a
  have KB := fa_B (kf o) hk b
  have KC := fa_C (kf o) hk c
  have KI := fa_I (kf o) hk i
  have KK := rkind_any o
  generalize (kf o == 0) = z at *
  generalize fld (hA (kf o)) a 15 = pa at *
  generalize fld (hB (kf o)) b 15 = pb at *
  generalize fld (hC (kf o)) c 15 = pc at *
  generalize fld (hI (kf o)) i 65535 = pi at *
  clear hk
  go_enter Tryz.func31, Tryz.ntmps31
  go_wp2_with (first
    | (go_at_call 50; refine (KK _).mono ?_; rintro e w1 ⟨rfl, rfl⟩; clear KK)
    | (go_at_call 51; refine (KA _).mono ?_; rintro e w1 ⟨rfl, rfl⟩; clear KA)
    | (go_at_call 51; refine (KB _).mono ?_; rintro e w1 ⟨rfl, rfl⟩; clear KB)
    | (go_at_call 51; refine (KC _).mono ?_; rintro e w1 ⟨rfl, rfl⟩; clear KC)
    | (go_at_call 51; refine (KI _).mono ?_; rintro e w1 ⟨rfl, rfl⟩; clear KI))
  all_goals go_ret
  all_goals exact ⟨ret_bool (by simp_all), f0⟩

set_option maxHeartbeats 1600000 in
theorem renc_any (o a b c i : Int) (w : World) :
    Calls Tryz.prog 17 #[.agg #[.int .i64 o, .int .i64 a, .int .i64 b, .int .i64 c, .int .i64 i]] w fun e w' => e = .returned (.tuple #[.int .u32 (encW o a b c i), .int .i64 (encE o a b c i)]) ∧ Fr none' w w' := by
  have f0 := (Fr.refl none' w).alloc (.cells (ibox o a b c i) 46)
  have r0 := row_alloc w (ibox o a b c i) 46
  unfold ibox at f0
  unfold encW encE
  cases h : rightI o a b c i
  · go_enter Tryz.func17, Tryz.ntmps17
    go_wp2_with fail
    refine (rright_any _ _ _ _ _ _).mono ?_
    rintro e w1 ⟨rfl, f1⟩
    rw [h]
    replace f0 := f0.trans f1
    clear f1
    go_wp2
    go_ret2
    exact ⟨rfl, f0⟩
  · obtain ⟨⟨h1, h1'⟩, ⟨h2, h2'⟩, ⟨h3, h3'⟩, ⟨h4, h4'⟩, ⟨h5, h5'⟩, h6⟩ := right_bounds h
    clear h6
    go_enter Tryz.func17, Tryz.ntmps17
    go_wp2_with fail
    refine (rright_any _ _ _ _ _ _).mono ?_
    rintro e w1 ⟨rfl, f1⟩
    rw [h]
    obtain ⟨c0, c1, c2, c3, c4⟩ := ibox_cells (r0.keep f1 (fun h => h))
    replace f0 := f0.trans f1
    clear f1 r0 h
    go_wp2_with fail
    go_ret2
    exact ⟨ret_ue (by simp [wordI]; try omega) rfl, f0⟩

theorem has_C_of {k : Nat} (hk : k < 9) {z : Bool} (h : hC k = z) (w : World) : Calls Tryz.prog 74 #[.string (fs k), .int .u8 99] w fun e w' => e = .returned (.bool z) ∧ w = w' := by
  have := has_C k hk w
  rwa [h] at this

end Go.Proofs.YtecipogfdhpjfaaGreatDoor
