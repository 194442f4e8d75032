/-
  Contract of the document's Right (package viceroyref11), of the kinds 1, 2, k. No statement is proved here.
-/
import Derived.Test.YtibdkadojoeopaaCapRef
namespace Go.Proofs.Ytibdkadojoeopaa
open Go.RowKit

set_option maxRecDepth 100000 in
set_option maxHeartbeats 1600000 in
theorem rr1_0a (o r b x g n : Int) (d : Bool) (w : World) (h1 : decide (o < 0) = true) : Calls Try.prog 21 #[.agg #[.int .i64 1, .int .i64 o, .int .i64 r, .int .i64 b, .int .i64 x, .int .i64 g, .int .i64 n, .bool d]] w fun e w' => e = .returned (.bool false) ∧ Fr none' w w' := by
  have f0 := (Fr.refl none' w).alloc (.cells (cbox 1 o r b x g n d) 34)
  unfold cbox at f0
  cases d
  all_goals go_enter Try.func21, Try.ntmps21
  all_goals go_wp2_with fail
  all_goals go_ret
  all_goals exact ⟨rfl, f0⟩

set_option maxRecDepth 100000 in
set_option maxHeartbeats 1600000 in
theorem rr1_0b (o r b x g n : Int) (d : Bool) (w : World) (h1 : decide (o < 0) = false) (h2 : decide (1023 < o) = true) : Calls Try.prog 21 #[.agg #[.int .i64 1, .int .i64 o, .int .i64 r, .int .i64 b, .int .i64 x, .int .i64 g, .int .i64 n, .bool d]] w fun e w' => e = .returned (.bool false) ∧ Fr none' w w' := by
  have f0 := (Fr.refl none' w).alloc (.cells (cbox 1 o r b x g n d) 34)
  unfold cbox at f0
  cases d
  all_goals go_enter Try.func21, Try.ntmps21
  all_goals go_wp2_with fail
  all_goals go_ret
  all_goals exact ⟨rfl, f0⟩

set_option maxRecDepth 100000 in
set_option maxHeartbeats 1600000 in
theorem rr1_1a (o r b x g n : Int) (d : Bool) (w : World) (h1 : decide (o < 0) = false) (h2 : decide (1023 < o) = false) (h3 : decide (r < 0) = true) : Calls Try.prog 21 #[.agg #[.int .i64 1, .int .i64 o, .int .i64 r, .int .i64 b, .int .i64 x, .int .i64 g, .int .i64 n, .bool d]] w fun e w' => e = .returned (.bool false) ∧ Fr none' w w' := by
  have f0 := (Fr.refl none' w).alloc (.cells (cbox 1 o r b x g n d) 34)
  unfold cbox at f0
  cases d
  all_goals go_enter Try.func21, Try.ntmps21
  all_goals go_wp2_with fail
  all_goals go_quiet (fail)
  all_goals go_wp2
  all_goals go_ret
  all_goals exact ⟨rfl, f0.trans (fr_drewN _ _)⟩

set_option maxRecDepth 100000 in
set_option maxHeartbeats 1600000 in
theorem rr1_1b (o r b x g n : Int) (d : Bool) (w : World) (h1 : decide (o < 0) = false) (h2 : decide (1023 < o) = false) (h3 : decide (r < 0) = false) (h4 : (bits .and .i64 r 0 != r) = true) : Calls Try.prog 21 #[.agg #[.int .i64 1, .int .i64 o, .int .i64 r, .int .i64 b, .int .i64 x, .int .i64 g, .int .i64 n, .bool d]] w fun e w' => e = .returned (.bool false) ∧ Fr none' w w' := by
  have f0 := (Fr.refl none' w).alloc (.cells (cbox 1 o r b x g n d) 34)
  unfold cbox at f0
  have M : ∀ w, Calls Try.prog 42 #[.int .i64 1] w fun e w1 => e = .returned (.int .i64 0) ∧ w1 = w := fun w => rmay_any 1 w
  cases d
  all_goals go_enter Try.func21, Try.ntmps21
  all_goals go_wp2_with fail
  all_goals go_quiet (first | (go_at_call 42; refine Calls.quiet_of_same (M _)))
  all_goals go_wp2_with (go_at_call 43; refine (rguard_any _ _ _).mono ?_; rintro e w1 ⟨rfl, rfl⟩)
  all_goals go_ret
  all_goals exact ⟨rfl, f0.trans (fr_drewN _ _)⟩

set_option maxRecDepth 100000 in
set_option maxHeartbeats 1600000 in
theorem rr1_2a (o r b x g n : Int) (d : Bool) (w : World) (h1 : decide (o < 0) = false) (h2 : decide (1023 < o) = false) (h3 : decide (r < 0) = false) (h4 : (bits .and .i64 r 0 != r) = false) (h7 : (b != 0) = true) : Calls Try.prog 21 #[.agg #[.int .i64 1, .int .i64 o, .int .i64 r, .int .i64 b, .int .i64 x, .int .i64 g, .int .i64 n, .bool d]] w fun e w' => e = .returned (.bool false) ∧ Fr none' w w' := by
  have f0 := (Fr.refl none' w).alloc (.cells (cbox 1 o r b x g n d) 34)
  unfold cbox at f0
  have M : ∀ w, Calls Try.prog 42 #[.int .i64 1] w fun e w1 => e = .returned (.int .i64 0) ∧ w1 = w := fun w => rmay_any 1 w
  cases d
  all_goals go_enter Try.func21, Try.ntmps21
  all_goals go_wp2_with fail
  all_goals go_quiet (first | (go_at_call 42; refine Calls.quiet_of_same (M _)))
  all_goals go_wp2_with (go_at_call 43; refine (rguard_any _ _ _).mono ?_; rintro e w1 ⟨rfl, rfl⟩)
  all_goals go_ret
  all_goals exact ⟨rfl, f0.trans (fr_drewN _ _)⟩

set_option maxRecDepth 100000 in
set_option maxHeartbeats 1600000 in
theorem rr1_4a (o r b x g n : Int) (d : Bool) (w : World) (h1 : decide (o < 0) = false) (h2 : decide (1023 < o) = false) (h3 : decide (r < 0) = false) (h4 : (bits .and .i64 r 0 != r) = false) (h5 : decide (b < 0) = false) (h6 : decide (1048576 ≤ b) = false) (h7 : (b != 0) = false) (h8 : (x == 0) = false) : Calls Try.prog 21 #[.agg #[.int .i64 1, .int .i64 o, .int .i64 r, .int .i64 b, .int .i64 x, .int .i64 g, .int .i64 n, .bool d]] w fun e w' => e = .returned (.bool false) ∧ Fr none' w w' := by
  have f0 := (Fr.refl none' w).alloc (.cells (cbox 1 o r b x g n d) 34)
  unfold cbox at f0
  have M : ∀ w, Calls Try.prog 42 #[.int .i64 1] w fun e w1 => e = .returned (.int .i64 0) ∧ w1 = w := fun w => rmay_any 1 w
  cases d
  all_goals go_enter Try.func21, Try.ntmps21
  all_goals go_wp2_with fail
  all_goals go_quiet (first | (go_at_call 42; refine Calls.quiet_of_same (M _)))
  all_goals go_wp2_with (go_at_call 43; refine (rguard_any _ _ _).mono ?_; rintro e w1 ⟨rfl, rfl⟩)
  all_goals go_ret
  all_goals exact ⟨rfl, f0.trans (fr_drewN _ _)⟩

set_option maxRecDepth 100000 in
set_option maxHeartbeats 1600000 in
theorem rr1_4b (o r b x g n : Int) (d : Bool) (w : World) (h1 : decide (o < 0) = false) (h2 : decide (1023 < o) = false) (h3 : decide (r < 0) = false) (h4 : (bits .and .i64 r 0 != r) = false) (h5 : decide (b < 0) = false) (h6 : decide (1048576 ≤ b) = false) (h7 : (b != 0) = false) (h8 : (x == 0) = true) (h9 : (g == 0) = false) : Calls Try.prog 21 #[.agg #[.int .i64 1, .int .i64 o, .int .i64 r, .int .i64 b, .int .i64 x, .int .i64 g, .int .i64 n, .bool d]] w fun e w' => e = .returned (.bool false) ∧ Fr none' w w' := by
  have f0 := (Fr.refl none' w).alloc (.cells (cbox 1 o r b x g n d) 34)
  unfold cbox at f0
  have M : ∀ w, Calls Try.prog 42 #[.int .i64 1] w fun e w1 => e = .returned (.int .i64 0) ∧ w1 = w := fun w => rmay_any 1 w
  cases d
  all_goals go_enter Try.func21, Try.ntmps21
  all_goals go_wp2_with fail
  all_goals go_quiet (first | (go_at_call 42; refine Calls.quiet_of_same (M _)))
  all_goals go_wp2_with (go_at_call 43; refine (rguard_any _ _ _).mono ?_; rintro e w1 ⟨rfl, rfl⟩)
  all_goals go_ret
  all_goals exact ⟨rfl, f0.trans (fr_drewN _ _)⟩

set_option maxRecDepth 100000 in
set_option maxHeartbeats 1600000 in
theorem rr1_4c (o r b x g n : Int) (d : Bool) (w : World) (h1 : decide (o < 0) = false) (h2 : decide (1023 < o) = false) (h3 : decide (r < 0) = false) (h4 : (bits .and .i64 r 0 != r) = false) (h5 : decide (b < 0) = false) (h6 : decide (1048576 ≤ b) = false) (h7 : (b != 0) = false) (h8 : (x == 0) = true) (h9 : (g == 0) = true) : Calls Try.prog 21 #[.agg #[.int .i64 1, .int .i64 o, .int .i64 r, .int .i64 b, .int .i64 x, .int .i64 g, .int .i64 n, .bool d]] w fun e w' => e = .returned (.bool (n == 0)) ∧ Fr none' w w' := by
  have f0 := (Fr.refl none' w).alloc (.cells (cbox 1 o r b x g n d) 34)
  unfold cbox at f0
  have M : ∀ w, Calls Try.prog 42 #[.int .i64 1] w fun e w1 => e = .returned (.int .i64 0) ∧ w1 = w := fun w => rmay_any 1 w
  cases d
  all_goals go_enter Try.func21, Try.ntmps21
  all_goals go_wp2_with fail
  all_goals go_quiet (first | (go_at_call 42; refine Calls.quiet_of_same (M _)))
  all_goals go_wp2_with (go_at_call 43; refine (rguard_any _ _ _).mono ?_; rintro e w1 ⟨rfl, rfl⟩)
  all_goals go_ret
  all_goals exact ⟨rfl, f0.trans (fr_drewN _ _)⟩

theorem rc_1 (o r b x g n : Int) (d : Bool) : rightC (K.mk 1 o r b x g n d) = ((decide (0 ≤ o) && decide (o < 1024)) && ((bits .and .i64 r 0 == r) && ((b == 0) && (true && (x == 0 && (g == 0 && n == 0)))))) := by
  rfl

theorem rright_1 (o r b x g n : Int) (d : Bool) (w : World) : Calls Try.prog 21 #[.agg #[.int .i64 1, .int .i64 o, .int .i64 r, .int .i64 b, .int .i64 x, .int .i64 g, .int .i64 n, .bool d]] w fun e w' => e = .returned (.bool (rightC (K.mk 1 o r b x g n d))) ∧ Fr none' w w' := by
  rw [rc_1]
  cases h1 : decide (o < 0)
  · cases h2 : decide (1023 < o)
    · have hO : (decide (0 ≤ o) && decide (o < 1024)) = true := by
        rw [decide_eq_false_iff_not] at h1 h2
        rw [decide_eq_true (show 0 ≤ o by omega), decide_eq_true (show o < 1024 by omega)]; rfl
      rw [hO, Bool.true_and]
      cases h3 : decide (r < 0)
      · cases h4 : (bits .and .i64 r 0 != r)
        · have hR : (bits .and .i64 r 0 == r) = true := by simpa using h4
          rw [hR, Bool.true_and]
          cases h7 : (b != 0)
          · have hb : b = 0 := by simpa using h7
            have h5 : decide (b < 0) = false := by rw [decide_eq_false_iff_not]; omega
            have h6 : decide (1048576 ≤ b) = false := by rw [decide_eq_false_iff_not]; omega
            have hB : (b == 0) = true := by simpa using hb
            rw [hB, Bool.true_and]
            clear hb
            rw [Bool.true_and]
            cases h8 : (x == 0)
            · exact rr1_4a o r b x g n d w h1 h2 h3 h4 h5 h6 h7 h8
            · cases h9 : (g == 0)
              · exact rr1_4b o r b x g n d w h1 h2 h3 h4 h5 h6 h7 h8 h9
              · exact rr1_4c o r b x g n d w h1 h2 h3 h4 h5 h6 h7 h8 h9
          · have hB : (b == 0) = false := by simpa using h7
            rw [hB, Bool.false_and]
            exact rr1_2a o r b x g n d w h1 h2 h3 h4 h7
        · have hR : (bits .and .i64 r 0 == r) = false := by simpa using h4
          rw [hR, Bool.false_and]
          exact rr1_1b o r b x g n d w h1 h2 h3 h4
      · have hR : (bits .and .i64 r 0 == r) = false := by
          have h := (and_range r 0 (by omega)).1
          rw [decide_eq_true_eq] at h3
          rw [beq_eq_false_iff_ne]
          intro e
          have e' : bits .and .i64 r ((0 : Nat) : Int) = r := e
          omega
        rw [hR, Bool.false_and]
        exact rr1_1a o r b x g n d w h1 h2 h3
    · have hO : (decide (0 ≤ o) && decide (o < 1024)) = false := by
        rw [decide_eq_true_eq] at h2
        rw [decide_eq_false (show ¬(o < 1024) by omega), Bool.and_false]
      rw [hO, Bool.false_and]
      exact rr1_0b o r b x g n d w h1 h2
  · have hO : (decide (0 ≤ o) && decide (o < 1024)) = false := by
      rw [decide_eq_true_eq] at h1
      rw [decide_eq_false (show ¬(0 ≤ o) by omega), Bool.false_and]
    rw [hO, Bool.false_and]
    exact rr1_0a o r b x g n d w h1

set_option maxRecDepth 100000 in
set_option maxHeartbeats 1600000 in
theorem rr2_0a (o r b x g n : Int) (d : Bool) (w : World) (h1 : decide (o < 0) = true) : Calls Try.prog 21 #[.agg #[.int .i64 2, .int .i64 o, .int .i64 r, .int .i64 b, .int .i64 x, .int .i64 g, .int .i64 n, .bool d]] w fun e w' => e = .returned (.bool false) ∧ Fr none' w w' := by
  have f0 := (Fr.refl none' w).alloc (.cells (cbox 2 o r b x g n d) 34)
  unfold cbox at f0
  go_enter Try.func21, Try.ntmps21
  go_wp2_with fail
  go_ret
  exact ⟨rfl, f0⟩

set_option maxRecDepth 100000 in
set_option maxHeartbeats 1600000 in
theorem rr2_0b (o r b x g n : Int) (d : Bool) (w : World) (h1 : decide (o < 0) = false) (h2 : decide (1023 < o) = true) : Calls Try.prog 21 #[.agg #[.int .i64 2, .int .i64 o, .int .i64 r, .int .i64 b, .int .i64 x, .int .i64 g, .int .i64 n, .bool d]] w fun e w' => e = .returned (.bool false) ∧ Fr none' w w' := by
  have f0 := (Fr.refl none' w).alloc (.cells (cbox 2 o r b x g n d) 34)
  unfold cbox at f0
  go_enter Try.func21, Try.ntmps21
  go_wp2_with fail
  go_ret
  exact ⟨rfl, f0⟩

set_option maxRecDepth 100000 in
set_option maxHeartbeats 1600000 in
theorem rr2_1a (o r b x g n : Int) (d : Bool) (w : World) (h1 : decide (o < 0) = false) (h2 : decide (1023 < o) = false) (h3 : decide (r < 0) = true) : Calls Try.prog 21 #[.agg #[.int .i64 2, .int .i64 o, .int .i64 r, .int .i64 b, .int .i64 x, .int .i64 g, .int .i64 n, .bool d]] w fun e w' => e = .returned (.bool false) ∧ Fr none' w w' := by
  have f0 := (Fr.refl none' w).alloc (.cells (cbox 2 o r b x g n d) 34)
  unfold cbox at f0
  go_enter Try.func21, Try.ntmps21
  go_wp2_with fail
  go_quiet (fail)
  go_wp2
  go_ret
  exact ⟨rfl, f0.trans (fr_drewN _ _)⟩

set_option maxRecDepth 100000 in
set_option maxHeartbeats 1600000 in
theorem rr2_1b (o r b x g n : Int) (d : Bool) (w : World) (h1 : decide (o < 0) = false) (h2 : decide (1023 < o) = false) (h3 : decide (r < 0) = false) (h4 : (bits .and .i64 r 0 != r) = true) : Calls Try.prog 21 #[.agg #[.int .i64 2, .int .i64 o, .int .i64 r, .int .i64 b, .int .i64 x, .int .i64 g, .int .i64 n, .bool d]] w fun e w' => e = .returned (.bool false) ∧ Fr none' w w' := by
  have f0 := (Fr.refl none' w).alloc (.cells (cbox 2 o r b x g n d) 34)
  unfold cbox at f0
  have M : ∀ w, Calls Try.prog 42 #[.int .i64 2] w fun e w1 => e = .returned (.int .i64 0) ∧ w1 = w := fun w => rmay_any 2 w
  go_enter Try.func21, Try.ntmps21
  go_wp2_with fail
  go_quiet (first | (go_at_call 42; refine Calls.quiet_of_same (M _)))
  go_wp2_with (go_at_call 43; refine (rguard_any _ _ _).mono ?_; rintro e w1 ⟨rfl, rfl⟩)
  go_ret
  exact ⟨rfl, f0.trans (fr_drewN _ _)⟩

set_option maxRecDepth 100000 in
set_option maxHeartbeats 1600000 in
theorem rr2_2a (o r b x g n : Int) (d : Bool) (w : World) (h1 : decide (o < 0) = false) (h2 : decide (1023 < o) = false) (h3 : decide (r < 0) = false) (h4 : (bits .and .i64 r 0 != r) = false) (h7 : (b != 0) = true) : Calls Try.prog 21 #[.agg #[.int .i64 2, .int .i64 o, .int .i64 r, .int .i64 b, .int .i64 x, .int .i64 g, .int .i64 n, .bool d]] w fun e w' => e = .returned (.bool false) ∧ Fr none' w w' := by
  have f0 := (Fr.refl none' w).alloc (.cells (cbox 2 o r b x g n d) 34)
  unfold cbox at f0
  have M : ∀ w, Calls Try.prog 42 #[.int .i64 2] w fun e w1 => e = .returned (.int .i64 0) ∧ w1 = w := fun w => rmay_any 2 w
  go_enter Try.func21, Try.ntmps21
  go_wp2_with fail
  go_quiet (first | (go_at_call 42; refine Calls.quiet_of_same (M _)))
  go_wp2_with (go_at_call 43; refine (rguard_any _ _ _).mono ?_; rintro e w1 ⟨rfl, rfl⟩)
  go_ret
  exact ⟨rfl, f0.trans (fr_drewN _ _)⟩

set_option maxRecDepth 100000 in
set_option maxHeartbeats 1600000 in
theorem rr2_3 (o r b x g n : Int) (w : World) (h1 : decide (o < 0) = false) (h2 : decide (1023 < o) = false) (h3 : decide (r < 0) = false) (h4 : (bits .and .i64 r 0 != r) = false) (h5 : decide (b < 0) = false) (h6 : decide (1048576 ≤ b) = false) (h7 : (b != 0) = false) : Calls Try.prog 21 #[.agg #[.int .i64 2, .int .i64 o, .int .i64 r, .int .i64 b, .int .i64 x, .int .i64 g, .int .i64 n, .bool true]] w fun e w' => e = .returned (.bool false) ∧ Fr none' w w' := by
  have f0 := (Fr.refl none' w).alloc (.cells (cbox 2 o r b x g n true) 34)
  unfold cbox at f0
  have M : ∀ w, Calls Try.prog 42 #[.int .i64 2] w fun e w1 => e = .returned (.int .i64 0) ∧ w1 = w := fun w => rmay_any 2 w
  go_enter Try.func21, Try.ntmps21
  go_wp2_with fail
  go_quiet (first | (go_at_call 42; refine Calls.quiet_of_same (M _)))
  go_wp2_with (go_at_call 43; refine (rguard_any _ _ _).mono ?_; rintro e w1 ⟨rfl, rfl⟩)
  go_ret
  exact ⟨rfl, f0.trans (fr_drewN _ _)⟩

set_option maxRecDepth 100000 in
set_option maxHeartbeats 1600000 in
theorem rr2_4a (o r b x g n : Int) (w : World) (h1 : decide (o < 0) = false) (h2 : decide (1023 < o) = false) (h3 : decide (r < 0) = false) (h4 : (bits .and .i64 r 0 != r) = false) (h5 : decide (b < 0) = false) (h6 : decide (1048576 ≤ b) = false) (h7 : (b != 0) = false) (h8 : decide (1 ≤ x) = false) : Calls Try.prog 21 #[.agg #[.int .i64 2, .int .i64 o, .int .i64 r, .int .i64 b, .int .i64 x, .int .i64 g, .int .i64 n, .bool false]] w fun e w' => e = .returned (.bool false) ∧ Fr none' w w' := by
  have f0 := (Fr.refl none' w).alloc (.cells (cbox 2 o r b x g n false) 34)
  unfold cbox at f0
  have M : ∀ w, Calls Try.prog 42 #[.int .i64 2] w fun e w1 => e = .returned (.int .i64 0) ∧ w1 = w := fun w => rmay_any 2 w
  go_enter Try.func21, Try.ntmps21
  go_wp2_with fail
  go_quiet (first | (go_at_call 42; refine Calls.quiet_of_same (M _)))
  go_wp2_with (go_at_call 43; refine (rguard_any _ _ _).mono ?_; rintro e w1 ⟨rfl, rfl⟩)
  go_ret
  exact ⟨rfl, f0.trans (fr_drewN _ _)⟩

set_option maxRecDepth 100000 in
set_option maxHeartbeats 1600000 in
theorem rr2_4b (o r b x g n : Int) (w : World) (h1 : decide (o < 0) = false) (h2 : decide (1023 < o) = false) (h3 : decide (r < 0) = false) (h4 : (bits .and .i64 r 0 != r) = false) (h5 : decide (b < 0) = false) (h6 : decide (1048576 ≤ b) = false) (h7 : (b != 0) = false) (h8 : decide (1 ≤ x) = true) (h9 : decide (x ≤ 4) = false) : Calls Try.prog 21 #[.agg #[.int .i64 2, .int .i64 o, .int .i64 r, .int .i64 b, .int .i64 x, .int .i64 g, .int .i64 n, .bool false]] w fun e w' => e = .returned (.bool false) ∧ Fr none' w w' := by
  have f0 := (Fr.refl none' w).alloc (.cells (cbox 2 o r b x g n false) 34)
  unfold cbox at f0
  have M : ∀ w, Calls Try.prog 42 #[.int .i64 2] w fun e w1 => e = .returned (.int .i64 0) ∧ w1 = w := fun w => rmay_any 2 w
  go_enter Try.func21, Try.ntmps21
  go_wp2_with fail
  go_quiet (first | (go_at_call 42; refine Calls.quiet_of_same (M _)))
  go_wp2_with (go_at_call 43; refine (rguard_any _ _ _).mono ?_; rintro e w1 ⟨rfl, rfl⟩)
  go_ret
  exact ⟨rfl, f0.trans (fr_drewN _ _)⟩

set_option maxRecDepth 100000 in
set_option maxHeartbeats 1600000 in
theorem rr2_4c (o r b x g n : Int) (w : World) (h1 : decide (o < 0) = false) (h2 : decide (1023 < o) = false) (h3 : decide (r < 0) = false) (h4 : (bits .and .i64 r 0 != r) = false) (h5 : decide (b < 0) = false) (h6 : decide (1048576 ≤ b) = false) (h7 : (b != 0) = false) (h8 : decide (1 ≤ x) = true) (h9 : decide (x ≤ 4) = true) : Calls Try.prog 21 #[.agg #[.int .i64 2, .int .i64 o, .int .i64 r, .int .i64 b, .int .i64 x, .int .i64 g, .int .i64 n, .bool false]] w fun e w' => e = .returned (.bool (gOk g n)) ∧ Fr none' w w' := by
  have f0 := (Fr.refl none' w).alloc (.cells (cbox 2 o r b x g n false) 34)
  unfold cbox at f0
  have M : ∀ w, Calls Try.prog 42 #[.int .i64 2] w fun e w1 => e = .returned (.int .i64 0) ∧ w1 = w := fun w => rmay_any 2 w
  go_enter Try.func21, Try.ntmps21
  go_wp2_with fail
  go_quiet (first | (go_at_call 42; refine Calls.quiet_of_same (M _)))
  go_wp2_with (go_at_call 43; refine (rguard_any _ _ _).mono ?_; rintro e w1 ⟨rfl, rfl⟩)
  go_ret
  exact ⟨rfl, f0.trans (fr_drewN _ _)⟩

theorem rc_2 (o r b x g n : Int) (d : Bool) : rightC (K.mk 2 o r b x g n d) = ((decide (0 ≤ o) && decide (o < 1024)) && ((bits .and .i64 r 0 == r) && ((b == 0) && (!d && ((decide (1 ≤ x) && decide (x ≤ 4)) && gOk g n))))) := by
  rfl

theorem rright_2 (o r b x g n : Int) (d : Bool) (w : World) : Calls Try.prog 21 #[.agg #[.int .i64 2, .int .i64 o, .int .i64 r, .int .i64 b, .int .i64 x, .int .i64 g, .int .i64 n, .bool d]] w fun e w' => e = .returned (.bool (rightC (K.mk 2 o r b x g n d))) ∧ Fr none' w w' := by
  rw [rc_2]
  cases h1 : decide (o < 0)
  · cases h2 : decide (1023 < o)
    · have hO : (decide (0 ≤ o) && decide (o < 1024)) = true := by
        rw [decide_eq_false_iff_not] at h1 h2
        rw [decide_eq_true (show 0 ≤ o by omega), decide_eq_true (show o < 1024 by omega)]; rfl
      rw [hO, Bool.true_and]
      cases h3 : decide (r < 0)
      · cases h4 : (bits .and .i64 r 0 != r)
        · have hR : (bits .and .i64 r 0 == r) = true := by simpa using h4
          rw [hR, Bool.true_and]
          cases h7 : (b != 0)
          · have hb : b = 0 := by simpa using h7
            have h5 : decide (b < 0) = false := by rw [decide_eq_false_iff_not]; omega
            have h6 : decide (1048576 ≤ b) = false := by rw [decide_eq_false_iff_not]; omega
            have hB : (b == 0) = true := by simpa using hb
            rw [hB, Bool.true_and]
            clear hb
            cases d
            · rw [Bool.not_false, Bool.true_and]
              cases h8 : decide (1 ≤ x)
              · exact rr2_4a o r b x g n w h1 h2 h3 h4 h5 h6 h7 h8
              · cases h9 : decide (x ≤ 4)
                · exact rr2_4b o r b x g n w h1 h2 h3 h4 h5 h6 h7 h8 h9
                · exact rr2_4c o r b x g n w h1 h2 h3 h4 h5 h6 h7 h8 h9
            · rw [Bool.not_true, Bool.false_and]
              exact rr2_3 o r b x g n w h1 h2 h3 h4 h5 h6 h7
          · have hB : (b == 0) = false := by simpa using h7
            rw [hB, Bool.false_and]
            exact rr2_2a o r b x g n d w h1 h2 h3 h4 h7
        · have hR : (bits .and .i64 r 0 == r) = false := by simpa using h4
          rw [hR, Bool.false_and]
          exact rr2_1b o r b x g n d w h1 h2 h3 h4
      · have hR : (bits .and .i64 r 0 == r) = false := by
          have h := (and_range r 0 (by omega)).1
          rw [decide_eq_true_eq] at h3
          rw [beq_eq_false_iff_ne]
          intro e
          have e' : bits .and .i64 r ((0 : Nat) : Int) = r := e
          omega
        rw [hR, Bool.false_and]
        exact rr2_1a o r b x g n d w h1 h2 h3
    · have hO : (decide (0 ≤ o) && decide (o < 1024)) = false := by
        rw [decide_eq_true_eq] at h2
        rw [decide_eq_false (show ¬(o < 1024) by omega), Bool.and_false]
      rw [hO, Bool.false_and]
      exact rr2_0b o r b x g n d w h1 h2
  · have hO : (decide (0 ≤ o) && decide (o < 1024)) = false := by
      rw [decide_eq_true_eq] at h1
      rw [decide_eq_false (show ¬(0 ≤ o) by omega), Bool.false_and]
    rw [hO, Bool.false_and]
    exact rr2_0a o r b x g n d w h1

set_option maxRecDepth 100000 in
set_option maxHeartbeats 1600000 in
theorem rrx_0a (k : Int) (o r b x g n : Int) (d : Bool) (w : World) (F : (k == 0) = false ∧ (k == 9) = false ∧ (k == 10) = false ∧ (k == 4) = false ∧ (k == 5) = false ∧ decide (k < 0) = false ∧ decide (11 < k) = false ∧ (k != 1) = true ∧ (k != 6) = true ∧ (k != 2) = true ∧ (∀ w, Calls Try.prog 42 #[.int .i64 k] w fun e w1 => e = .returned (.int .i64 0) ∧ w1 = w)) (h1 : decide (o < 0) = true) : Calls Try.prog 21 #[.agg #[.int .i64 k, .int .i64 o, .int .i64 r, .int .i64 b, .int .i64 x, .int .i64 g, .int .i64 n, .bool d]] w fun e w' => e = .returned (.bool false) ∧ Fr none' w w' := by
  have f0 := (Fr.refl none' w).alloc (.cells (cbox k o r b x g n d) 34)
  unfold cbox at f0
  obtain ⟨t0, t9, t10, t4, t5, q0, q11, s1, s6, s2, M⟩ := F
  go_enter Try.func21, Try.ntmps21
  go_wp2_with fail
  go_ret
  exact ⟨rfl, f0⟩

set_option maxRecDepth 100000 in
set_option maxHeartbeats 1600000 in
theorem rrx_0b (k : Int) (o r b x g n : Int) (d : Bool) (w : World) (F : (k == 0) = false ∧ (k == 9) = false ∧ (k == 10) = false ∧ (k == 4) = false ∧ (k == 5) = false ∧ decide (k < 0) = false ∧ decide (11 < k) = false ∧ (k != 1) = true ∧ (k != 6) = true ∧ (k != 2) = true ∧ (∀ w, Calls Try.prog 42 #[.int .i64 k] w fun e w1 => e = .returned (.int .i64 0) ∧ w1 = w)) (h1 : decide (o < 0) = false) (h2 : decide (1023 < o) = true) : Calls Try.prog 21 #[.agg #[.int .i64 k, .int .i64 o, .int .i64 r, .int .i64 b, .int .i64 x, .int .i64 g, .int .i64 n, .bool d]] w fun e w' => e = .returned (.bool false) ∧ Fr none' w w' := by
  have f0 := (Fr.refl none' w).alloc (.cells (cbox k o r b x g n d) 34)
  unfold cbox at f0
  obtain ⟨t0, t9, t10, t4, t5, q0, q11, s1, s6, s2, M⟩ := F
  go_enter Try.func21, Try.ntmps21
  go_wp2_with fail
  go_ret
  exact ⟨rfl, f0⟩

set_option maxRecDepth 100000 in
set_option maxHeartbeats 1600000 in
theorem rrx_1a (k : Int) (o r b x g n : Int) (d : Bool) (w : World) (F : (k == 0) = false ∧ (k == 9) = false ∧ (k == 10) = false ∧ (k == 4) = false ∧ (k == 5) = false ∧ decide (k < 0) = false ∧ decide (11 < k) = false ∧ (k != 1) = true ∧ (k != 6) = true ∧ (k != 2) = true ∧ (∀ w, Calls Try.prog 42 #[.int .i64 k] w fun e w1 => e = .returned (.int .i64 0) ∧ w1 = w)) (h1 : decide (o < 0) = false) (h2 : decide (1023 < o) = false) (h3 : decide (r < 0) = true) : Calls Try.prog 21 #[.agg #[.int .i64 k, .int .i64 o, .int .i64 r, .int .i64 b, .int .i64 x, .int .i64 g, .int .i64 n, .bool d]] w fun e w' => e = .returned (.bool false) ∧ Fr none' w w' := by
  have f0 := (Fr.refl none' w).alloc (.cells (cbox k o r b x g n d) 34)
  unfold cbox at f0
  obtain ⟨t0, t9, t10, t4, t5, q0, q11, s1, s6, s2, M⟩ := F
  go_enter Try.func21, Try.ntmps21
  go_wp2_with fail
  go_quiet (fail)
  go_wp2
  go_ret
  exact ⟨rfl, f0.trans (fr_drewN _ _)⟩

set_option maxRecDepth 100000 in
set_option maxHeartbeats 1600000 in
theorem rrx_1b (k : Int) (o r b x g n : Int) (d : Bool) (w : World) (F : (k == 0) = false ∧ (k == 9) = false ∧ (k == 10) = false ∧ (k == 4) = false ∧ (k == 5) = false ∧ decide (k < 0) = false ∧ decide (11 < k) = false ∧ (k != 1) = true ∧ (k != 6) = true ∧ (k != 2) = true ∧ (∀ w, Calls Try.prog 42 #[.int .i64 k] w fun e w1 => e = .returned (.int .i64 0) ∧ w1 = w)) (h1 : decide (o < 0) = false) (h2 : decide (1023 < o) = false) (h3 : decide (r < 0) = false) (h4 : (bits .and .i64 r 0 != r) = true) : Calls Try.prog 21 #[.agg #[.int .i64 k, .int .i64 o, .int .i64 r, .int .i64 b, .int .i64 x, .int .i64 g, .int .i64 n, .bool d]] w fun e w' => e = .returned (.bool false) ∧ Fr none' w w' := by
  have f0 := (Fr.refl none' w).alloc (.cells (cbox k o r b x g n d) 34)
  unfold cbox at f0
  obtain ⟨t0, t9, t10, t4, t5, q0, q11, s1, s6, s2, M⟩ := F
  go_enter Try.func21, Try.ntmps21
  go_wp2_with fail
  go_quiet (first | (go_at_call 42; refine Calls.quiet_of_same (M _)))
  go_wp2_with (go_at_call 43; refine (rguard_any _ _ _).mono ?_; rintro e w1 ⟨rfl, rfl⟩)
  go_ret
  exact ⟨rfl, f0.trans (fr_drewN _ _)⟩

set_option maxRecDepth 100000 in
set_option maxHeartbeats 1600000 in
theorem rrx_2a (k : Int) (o r b x g n : Int) (d : Bool) (w : World) (F : (k == 0) = false ∧ (k == 9) = false ∧ (k == 10) = false ∧ (k == 4) = false ∧ (k == 5) = false ∧ decide (k < 0) = false ∧ decide (11 < k) = false ∧ (k != 1) = true ∧ (k != 6) = true ∧ (k != 2) = true ∧ (∀ w, Calls Try.prog 42 #[.int .i64 k] w fun e w1 => e = .returned (.int .i64 0) ∧ w1 = w)) (h1 : decide (o < 0) = false) (h2 : decide (1023 < o) = false) (h3 : decide (r < 0) = false) (h4 : (bits .and .i64 r 0 != r) = false) (h7 : (b != 0) = true) : Calls Try.prog 21 #[.agg #[.int .i64 k, .int .i64 o, .int .i64 r, .int .i64 b, .int .i64 x, .int .i64 g, .int .i64 n, .bool d]] w fun e w' => e = .returned (.bool false) ∧ Fr none' w w' := by
  have f0 := (Fr.refl none' w).alloc (.cells (cbox k o r b x g n d) 34)
  unfold cbox at f0
  obtain ⟨t0, t9, t10, t4, t5, q0, q11, s1, s6, s2, M⟩ := F
  go_enter Try.func21, Try.ntmps21
  go_wp2_with fail
  go_quiet (first | (go_at_call 42; refine Calls.quiet_of_same (M _)))
  go_wp2_with (go_at_call 43; refine (rguard_any _ _ _).mono ?_; rintro e w1 ⟨rfl, rfl⟩)
  go_ret
  exact ⟨rfl, f0.trans (fr_drewN _ _)⟩

set_option maxRecDepth 100000 in
set_option maxHeartbeats 1600000 in
theorem rrx_3 (k : Int) (o r b x g n : Int) (w : World) (F : (k == 0) = false ∧ (k == 9) = false ∧ (k == 10) = false ∧ (k == 4) = false ∧ (k == 5) = false ∧ decide (k < 0) = false ∧ decide (11 < k) = false ∧ (k != 1) = true ∧ (k != 6) = true ∧ (k != 2) = true ∧ (∀ w, Calls Try.prog 42 #[.int .i64 k] w fun e w1 => e = .returned (.int .i64 0) ∧ w1 = w)) (h1 : decide (o < 0) = false) (h2 : decide (1023 < o) = false) (h3 : decide (r < 0) = false) (h4 : (bits .and .i64 r 0 != r) = false) (h5 : decide (b < 0) = false) (h6 : decide (1048576 ≤ b) = false) (h7 : (b != 0) = false) : Calls Try.prog 21 #[.agg #[.int .i64 k, .int .i64 o, .int .i64 r, .int .i64 b, .int .i64 x, .int .i64 g, .int .i64 n, .bool true]] w fun e w' => e = .returned (.bool false) ∧ Fr none' w w' := by
  have f0 := (Fr.refl none' w).alloc (.cells (cbox k o r b x g n true) 34)
  unfold cbox at f0
  obtain ⟨t0, t9, t10, t4, t5, q0, q11, s1, s6, s2, M⟩ := F
  go_enter Try.func21, Try.ntmps21
  go_wp2_with fail
  go_quiet (first | (go_at_call 42; refine Calls.quiet_of_same (M _)))
  go_wp2_with (go_at_call 43; refine (rguard_any _ _ _).mono ?_; rintro e w1 ⟨rfl, rfl⟩)
  go_ret
  exact ⟨rfl, f0.trans (fr_drewN _ _)⟩

set_option maxRecDepth 100000 in
set_option maxHeartbeats 1600000 in
theorem rrx_4a (k : Int) (o r b x g n : Int) (w : World) (F : (k == 0) = false ∧ (k == 9) = false ∧ (k == 10) = false ∧ (k == 4) = false ∧ (k == 5) = false ∧ decide (k < 0) = false ∧ decide (11 < k) = false ∧ (k != 1) = true ∧ (k != 6) = true ∧ (k != 2) = true ∧ (∀ w, Calls Try.prog 42 #[.int .i64 k] w fun e w1 => e = .returned (.int .i64 0) ∧ w1 = w)) (h1 : decide (o < 0) = false) (h2 : decide (1023 < o) = false) (h3 : decide (r < 0) = false) (h4 : (bits .and .i64 r 0 != r) = false) (h5 : decide (b < 0) = false) (h6 : decide (1048576 ≤ b) = false) (h7 : (b != 0) = false) (h8 : (x == 0) = false) : Calls Try.prog 21 #[.agg #[.int .i64 k, .int .i64 o, .int .i64 r, .int .i64 b, .int .i64 x, .int .i64 g, .int .i64 n, .bool false]] w fun e w' => e = .returned (.bool false) ∧ Fr none' w w' := by
  have f0 := (Fr.refl none' w).alloc (.cells (cbox k o r b x g n false) 34)
  unfold cbox at f0
  obtain ⟨t0, t9, t10, t4, t5, q0, q11, s1, s6, s2, M⟩ := F
  go_enter Try.func21, Try.ntmps21
  go_wp2_with fail
  go_quiet (first | (go_at_call 42; refine Calls.quiet_of_same (M _)))
  go_wp2_with (go_at_call 43; refine (rguard_any _ _ _).mono ?_; rintro e w1 ⟨rfl, rfl⟩)
  go_ret
  exact ⟨rfl, f0.trans (fr_drewN _ _)⟩

set_option maxRecDepth 100000 in
set_option maxHeartbeats 1600000 in
theorem rrx_4b (k : Int) (o r b x g n : Int) (w : World) (F : (k == 0) = false ∧ (k == 9) = false ∧ (k == 10) = false ∧ (k == 4) = false ∧ (k == 5) = false ∧ decide (k < 0) = false ∧ decide (11 < k) = false ∧ (k != 1) = true ∧ (k != 6) = true ∧ (k != 2) = true ∧ (∀ w, Calls Try.prog 42 #[.int .i64 k] w fun e w1 => e = .returned (.int .i64 0) ∧ w1 = w)) (h1 : decide (o < 0) = false) (h2 : decide (1023 < o) = false) (h3 : decide (r < 0) = false) (h4 : (bits .and .i64 r 0 != r) = false) (h5 : decide (b < 0) = false) (h6 : decide (1048576 ≤ b) = false) (h7 : (b != 0) = false) (h8 : (x == 0) = true) (h9 : (g == 0) = false) : Calls Try.prog 21 #[.agg #[.int .i64 k, .int .i64 o, .int .i64 r, .int .i64 b, .int .i64 x, .int .i64 g, .int .i64 n, .bool false]] w fun e w' => e = .returned (.bool false) ∧ Fr none' w w' := by
  have f0 := (Fr.refl none' w).alloc (.cells (cbox k o r b x g n false) 34)
  unfold cbox at f0
  obtain ⟨t0, t9, t10, t4, t5, q0, q11, s1, s6, s2, M⟩ := F
  go_enter Try.func21, Try.ntmps21
  go_wp2_with fail
  go_quiet (first | (go_at_call 42; refine Calls.quiet_of_same (M _)))
  go_wp2_with (go_at_call 43; refine (rguard_any _ _ _).mono ?_; rintro e w1 ⟨rfl, rfl⟩)
  go_ret
  exact ⟨rfl, f0.trans (fr_drewN _ _)⟩

set_option maxRecDepth 100000 in
set_option maxHeartbeats 1600000 in
theorem rrx_4c (k : Int) (o r b x g n : Int) (w : World) (F : (k == 0) = false ∧ (k == 9) = false ∧ (k == 10) = false ∧ (k == 4) = false ∧ (k == 5) = false ∧ decide (k < 0) = false ∧ decide (11 < k) = false ∧ (k != 1) = true ∧ (k != 6) = true ∧ (k != 2) = true ∧ (∀ w, Calls Try.prog 42 #[.int .i64 k] w fun e w1 => e = .returned (.int .i64 0) ∧ w1 = w)) (h1 : decide (o < 0) = false) (h2 : decide (1023 < o) = false) (h3 : decide (r < 0) = false) (h4 : (bits .and .i64 r 0 != r) = false) (h5 : decide (b < 0) = false) (h6 : decide (1048576 ≤ b) = false) (h7 : (b != 0) = false) (h8 : (x == 0) = true) (h9 : (g == 0) = true) : Calls Try.prog 21 #[.agg #[.int .i64 k, .int .i64 o, .int .i64 r, .int .i64 b, .int .i64 x, .int .i64 g, .int .i64 n, .bool false]] w fun e w' => e = .returned (.bool (n == 0)) ∧ Fr none' w w' := by
  have f0 := (Fr.refl none' w).alloc (.cells (cbox k o r b x g n false) 34)
  unfold cbox at f0
  obtain ⟨t0, t9, t10, t4, t5, q0, q11, s1, s6, s2, M⟩ := F
  go_enter Try.func21, Try.ntmps21
  go_wp2_with fail
  go_quiet (first | (go_at_call 42; refine Calls.quiet_of_same (M _)))
  go_wp2_with (go_at_call 43; refine (rguard_any _ _ _).mono ?_; rintro e w1 ⟨rfl, rfl⟩)
  go_ret
  exact ⟨rfl, f0.trans (fr_drewN _ _)⟩

theorem rc_x (k : Int) (o r b x g n : Int) (d : Bool) (hk : k = 3 ∨ k = 7 ∨ k = 8 ∨ k = 11) : rightC (K.mk k o r b x g n d) = ((decide (0 ≤ o) && decide (o < 1024)) && ((bits .and .i64 r 0 == r) && ((b == 0) && (!d && (x == 0 && (g == 0 && n == 0)))))) := by
  rcases hk with rfl | rfl | rfl | rfl <;> rfl

theorem rright_x (k : Int) (o r b x g n : Int) (d : Bool) (w : World) (hk : k = 3 ∨ k = 7 ∨ k = 8 ∨ k = 11) : Calls Try.prog 21 #[.agg #[.int .i64 k, .int .i64 o, .int .i64 r, .int .i64 b, .int .i64 x, .int .i64 g, .int .i64 n, .bool d]] w fun e w' => e = .returned (.bool (rightC (K.mk k o r b x g n d))) ∧ Fr none' w w' := by
  rw [rc_x k o r b x g n d hk]
  have t0 : (k == 0) = false := by rw [beq_eq_false_iff_ne]; omega
  have t9 : (k == 9) = false := by rw [beq_eq_false_iff_ne]; omega
  have t10 : (k == 10) = false := by rw [beq_eq_false_iff_ne]; omega
  have t4 : (k == 4) = false := by rw [beq_eq_false_iff_ne]; omega
  have t5 : (k == 5) = false := by rw [beq_eq_false_iff_ne]; omega
  have q0 : decide (k < 0) = false := by rw [decide_eq_false_iff_not]; omega
  have q11 : decide (11 < k) = false := by rw [decide_eq_false_iff_not]; omega
  have s1 : (k != 1) = true := by rw [bne_iff_ne]; omega
  have s6 : (k != 6) = true := by rw [bne_iff_ne]; omega
  have s2 : (k != 2) = true := by rw [bne_iff_ne]; omega
  have M : ∀ w, Calls Try.prog 42 #[.int .i64 k] w fun e w1 => e = .returned (.int .i64 0) ∧ w1 = w := by
    intro w
    have h := rmay_any k w
    rwa [show may k = 0 by unfold may; rw [if_neg (by omega), if_neg (by omega), if_neg (by omega)]] at h
  cases h1 : decide (o < 0)
  · cases h2 : decide (1023 < o)
    · have hO : (decide (0 ≤ o) && decide (o < 1024)) = true := by
        rw [decide_eq_false_iff_not] at h1 h2
        rw [decide_eq_true (show 0 ≤ o by omega), decide_eq_true (show o < 1024 by omega)]; rfl
      rw [hO, Bool.true_and]
      cases h3 : decide (r < 0)
      · cases h4 : (bits .and .i64 r 0 != r)
        · have hR : (bits .and .i64 r 0 == r) = true := by simpa using h4
          rw [hR, Bool.true_and]
          cases h7 : (b != 0)
          · have hb : b = 0 := by simpa using h7
            have h5 : decide (b < 0) = false := by rw [decide_eq_false_iff_not]; omega
            have h6 : decide (1048576 ≤ b) = false := by rw [decide_eq_false_iff_not]; omega
            have hB : (b == 0) = true := by simpa using hb
            rw [hB, Bool.true_and]
            clear hb
            cases d
            · rw [Bool.not_false, Bool.true_and]
              cases h8 : (x == 0)
              · exact rrx_4a k o r b x g n w ⟨t0, t9, t10, t4, t5, q0, q11, s1, s6, s2, M⟩ h1 h2 h3 h4 h5 h6 h7 h8
              · cases h9 : (g == 0)
                · exact rrx_4b k o r b x g n w ⟨t0, t9, t10, t4, t5, q0, q11, s1, s6, s2, M⟩ h1 h2 h3 h4 h5 h6 h7 h8 h9
                · exact rrx_4c k o r b x g n w ⟨t0, t9, t10, t4, t5, q0, q11, s1, s6, s2, M⟩ h1 h2 h3 h4 h5 h6 h7 h8 h9
            · rw [Bool.not_true, Bool.false_and]
              exact rrx_3 k o r b x g n w ⟨t0, t9, t10, t4, t5, q0, q11, s1, s6, s2, M⟩ h1 h2 h3 h4 h5 h6 h7
          · have hB : (b == 0) = false := by simpa using h7
            rw [hB, Bool.false_and]
            exact rrx_2a k o r b x g n d w ⟨t0, t9, t10, t4, t5, q0, q11, s1, s6, s2, M⟩ h1 h2 h3 h4 h7
        · have hR : (bits .and .i64 r 0 == r) = false := by simpa using h4
          rw [hR, Bool.false_and]
          exact rrx_1b k o r b x g n d w ⟨t0, t9, t10, t4, t5, q0, q11, s1, s6, s2, M⟩ h1 h2 h3 h4
      · have hR : (bits .and .i64 r 0 == r) = false := by
          have h := (and_range r 0 (by omega)).1
          rw [decide_eq_true_eq] at h3
          rw [beq_eq_false_iff_ne]
          intro e
          have e' : bits .and .i64 r ((0 : Nat) : Int) = r := e
          omega
        rw [hR, Bool.false_and]
        exact rrx_1a k o r b x g n d w ⟨t0, t9, t10, t4, t5, q0, q11, s1, s6, s2, M⟩ h1 h2 h3
    · have hO : (decide (0 ≤ o) && decide (o < 1024)) = false := by
        rw [decide_eq_true_eq] at h2
        rw [decide_eq_false (show ¬(o < 1024) by omega), Bool.and_false]
      rw [hO, Bool.false_and]
      exact rrx_0b k o r b x g n d w ⟨t0, t9, t10, t4, t5, q0, q11, s1, s6, s2, M⟩ h1 h2
  · have hO : (decide (0 ≤ o) && decide (o < 1024)) = false := by
      rw [decide_eq_true_eq] at h1
      rw [decide_eq_false (show ¬(0 ≤ o) by omega), Bool.false_and]
    rw [hO, Bool.false_and]
    exact rrx_0a k o r b x g n d w ⟨t0, t9, t10, t4, t5, q0, q11, s1, s6, s2, M⟩ h1

end Go.Proofs.Ytibdkadojoeopaa
