/-
  Contract of the document's Right (package viceroyref11), of the kinds 0, 9, 10. No statement is proved here.
-/
import Derived.Test.YtibdkadojoeopaaCapRef
namespace Go.Proofs.Ytibdkadojoeopaa
open Go.RowKit

set_option maxRecDepth 100000 in
set_option maxHeartbeats 1600000 in
theorem rr0_0a (o r b x g n : Int) (d : Bool) (w : World) (h1 : decide (o < 0) = true) : Calls Try.prog 21 #[.agg #[.int .i64 0, .int .i64 o, .int .i64 r, .int .i64 b, .int .i64 x, .int .i64 g, .int .i64 n, .bool d]] w fun e w' => e = .returned (.bool false) ∧ Fr none' w w' := by
  have f0 := (Fr.refl none' w).alloc (.cells (cbox 0 o r b x g n d) 34)
  unfold cbox at f0
  go_enter Try.func21, Try.ntmps21
  go_wp2_with fail
  go_ret
  exact ⟨rfl, f0⟩

set_option maxRecDepth 100000 in
set_option maxHeartbeats 1600000 in
theorem rr0_0b (o r b x g n : Int) (d : Bool) (w : World) (h1 : decide (o < 0) = false) (h2 : decide (0 < o) = true) : Calls Try.prog 21 #[.agg #[.int .i64 0, .int .i64 o, .int .i64 r, .int .i64 b, .int .i64 x, .int .i64 g, .int .i64 n, .bool d]] w fun e w' => e = .returned (.bool false) ∧ Fr none' w w' := by
  have f0 := (Fr.refl none' w).alloc (.cells (cbox 0 o r b x g n d) 34)
  unfold cbox at f0
  go_enter Try.func21, Try.ntmps21
  go_wp2_with fail
  go_ret
  exact ⟨rfl, f0⟩

set_option maxRecDepth 100000 in
set_option maxHeartbeats 1600000 in
theorem rr0_1a (o r b x g n : Int) (d : Bool) (w : World) (h1 : decide (o < 0) = false) (h2 : decide (0 < o) = false) (h3 : decide (r < 0) = true) : Calls Try.prog 21 #[.agg #[.int .i64 0, .int .i64 o, .int .i64 r, .int .i64 b, .int .i64 x, .int .i64 g, .int .i64 n, .bool d]] w fun e w' => e = .returned (.bool false) ∧ Fr none' w w' := by
  have f0 := (Fr.refl none' w).alloc (.cells (cbox 0 o r b x g n d) 34)
  unfold cbox at f0
  go_enter Try.func21, Try.ntmps21
  go_wp2_with fail
  go_quiet (fail)
  go_wp2
  go_ret
  exact ⟨rfl, f0.trans (fr_drewN _ _)⟩

set_option maxRecDepth 100000 in
set_option maxHeartbeats 1600000 in
theorem rr0_1b (o r b x g n : Int) (d : Bool) (w : World) (h1 : decide (o < 0) = false) (h2 : decide (0 < o) = false) (h3 : decide (r < 0) = false) (h4 : (bits .and .i64 r 0 != r) = true) : Calls Try.prog 21 #[.agg #[.int .i64 0, .int .i64 o, .int .i64 r, .int .i64 b, .int .i64 x, .int .i64 g, .int .i64 n, .bool d]] w fun e w' => e = .returned (.bool false) ∧ Fr none' w w' := by
  have f0 := (Fr.refl none' w).alloc (.cells (cbox 0 o r b x g n d) 34)
  unfold cbox at f0
  have M : ∀ w, Calls Try.prog 42 #[.int .i64 0] w fun e w1 => e = .returned (.int .i64 0) ∧ w1 = w := fun w => rmay_any 0 w
  go_enter Try.func21, Try.ntmps21
  go_wp2_with fail
  go_quiet (first | (go_at_call 42; refine Calls.quiet_of_same (M _)))
  go_wp2_with (go_at_call 43; refine (rguard_any _ _ _).mono ?_; rintro e w1 ⟨rfl, rfl⟩)
  go_ret
  exact ⟨rfl, f0.trans (fr_drewN _ _)⟩

set_option maxRecDepth 100000 in
set_option maxHeartbeats 1600000 in
theorem rr0_2a (o r b x g n : Int) (d : Bool) (w : World) (h1 : decide (o < 0) = false) (h2 : decide (0 < o) = false) (h3 : decide (r < 0) = false) (h4 : (bits .and .i64 r 0 != r) = false) (h7 : (b != 0) = true) : Calls Try.prog 21 #[.agg #[.int .i64 0, .int .i64 o, .int .i64 r, .int .i64 b, .int .i64 x, .int .i64 g, .int .i64 n, .bool d]] w fun e w' => e = .returned (.bool false) ∧ Fr none' w w' := by
  have f0 := (Fr.refl none' w).alloc (.cells (cbox 0 o r b x g n d) 34)
  unfold cbox at f0
  have M : ∀ w, Calls Try.prog 42 #[.int .i64 0] w fun e w1 => e = .returned (.int .i64 0) ∧ w1 = w := fun w => rmay_any 0 w
  go_enter Try.func21, Try.ntmps21
  go_wp2_with fail
  go_quiet (first | (go_at_call 42; refine Calls.quiet_of_same (M _)))
  go_wp2_with (go_at_call 43; refine (rguard_any _ _ _).mono ?_; rintro e w1 ⟨rfl, rfl⟩)
  go_ret
  exact ⟨rfl, f0.trans (fr_drewN _ _)⟩

set_option maxRecDepth 100000 in
set_option maxHeartbeats 1600000 in
theorem rr0_3 (o r b x g n : Int) (w : World) (h1 : decide (o < 0) = false) (h2 : decide (0 < o) = false) (h3 : decide (r < 0) = false) (h4 : (bits .and .i64 r 0 != r) = false) (h5 : decide (b < 0) = false) (h6 : decide (1048576 ≤ b) = false) (h7 : (b != 0) = false) : Calls Try.prog 21 #[.agg #[.int .i64 0, .int .i64 o, .int .i64 r, .int .i64 b, .int .i64 x, .int .i64 g, .int .i64 n, .bool true]] w fun e w' => e = .returned (.bool false) ∧ Fr none' w w' := by
  have f0 := (Fr.refl none' w).alloc (.cells (cbox 0 o r b x g n true) 34)
  unfold cbox at f0
  have M : ∀ w, Calls Try.prog 42 #[.int .i64 0] w fun e w1 => e = .returned (.int .i64 0) ∧ w1 = w := fun w => rmay_any 0 w
  go_enter Try.func21, Try.ntmps21
  go_wp2_with fail
  go_quiet (first | (go_at_call 42; refine Calls.quiet_of_same (M _)))
  go_wp2_with (go_at_call 43; refine (rguard_any _ _ _).mono ?_; rintro e w1 ⟨rfl, rfl⟩)
  go_ret
  exact ⟨rfl, f0.trans (fr_drewN _ _)⟩

set_option maxRecDepth 100000 in
set_option maxHeartbeats 1600000 in
theorem rr0_4a (o r b x g n : Int) (w : World) (h1 : decide (o < 0) = false) (h2 : decide (0 < o) = false) (h3 : decide (r < 0) = false) (h4 : (bits .and .i64 r 0 != r) = false) (h5 : decide (b < 0) = false) (h6 : decide (1048576 ≤ b) = false) (h7 : (b != 0) = false) (h8 : (x == 0) = false) : Calls Try.prog 21 #[.agg #[.int .i64 0, .int .i64 o, .int .i64 r, .int .i64 b, .int .i64 x, .int .i64 g, .int .i64 n, .bool false]] w fun e w' => e = .returned (.bool false) ∧ Fr none' w w' := by
  have f0 := (Fr.refl none' w).alloc (.cells (cbox 0 o r b x g n false) 34)
  unfold cbox at f0
  have M : ∀ w, Calls Try.prog 42 #[.int .i64 0] w fun e w1 => e = .returned (.int .i64 0) ∧ w1 = w := fun w => rmay_any 0 w
  go_enter Try.func21, Try.ntmps21
  go_wp2_with fail
  go_quiet (first | (go_at_call 42; refine Calls.quiet_of_same (M _)))
  go_wp2_with (go_at_call 43; refine (rguard_any _ _ _).mono ?_; rintro e w1 ⟨rfl, rfl⟩)
  go_ret
  exact ⟨rfl, f0.trans (fr_drewN _ _)⟩

set_option maxRecDepth 100000 in
set_option maxHeartbeats 1600000 in
theorem rr0_4b (o r b x g n : Int) (w : World) (h1 : decide (o < 0) = false) (h2 : decide (0 < o) = false) (h3 : decide (r < 0) = false) (h4 : (bits .and .i64 r 0 != r) = false) (h5 : decide (b < 0) = false) (h6 : decide (1048576 ≤ b) = false) (h7 : (b != 0) = false) (h8 : (x == 0) = true) (h9 : (g == 0) = false) : Calls Try.prog 21 #[.agg #[.int .i64 0, .int .i64 o, .int .i64 r, .int .i64 b, .int .i64 x, .int .i64 g, .int .i64 n, .bool false]] w fun e w' => e = .returned (.bool false) ∧ Fr none' w w' := by
  have f0 := (Fr.refl none' w).alloc (.cells (cbox 0 o r b x g n false) 34)
  unfold cbox at f0
  have M : ∀ w, Calls Try.prog 42 #[.int .i64 0] w fun e w1 => e = .returned (.int .i64 0) ∧ w1 = w := fun w => rmay_any 0 w
  go_enter Try.func21, Try.ntmps21
  go_wp2_with fail
  go_quiet (first | (go_at_call 42; refine Calls.quiet_of_same (M _)))
  go_wp2_with (go_at_call 43; refine (rguard_any _ _ _).mono ?_; rintro e w1 ⟨rfl, rfl⟩)
  go_ret
  exact ⟨rfl, f0.trans (fr_drewN _ _)⟩

set_option maxRecDepth 100000 in
set_option maxHeartbeats 1600000 in
theorem rr0_4c (o r b x g n : Int) (w : World) (h1 : decide (o < 0) = false) (h2 : decide (0 < o) = false) (h3 : decide (r < 0) = false) (h4 : (bits .and .i64 r 0 != r) = false) (h5 : decide (b < 0) = false) (h6 : decide (1048576 ≤ b) = false) (h7 : (b != 0) = false) (h8 : (x == 0) = true) (h9 : (g == 0) = true) : Calls Try.prog 21 #[.agg #[.int .i64 0, .int .i64 o, .int .i64 r, .int .i64 b, .int .i64 x, .int .i64 g, .int .i64 n, .bool false]] w fun e w' => e = .returned (.bool (n == 0)) ∧ Fr none' w w' := by
  have f0 := (Fr.refl none' w).alloc (.cells (cbox 0 o r b x g n false) 34)
  unfold cbox at f0
  have M : ∀ w, Calls Try.prog 42 #[.int .i64 0] w fun e w1 => e = .returned (.int .i64 0) ∧ w1 = w := fun w => rmay_any 0 w
  go_enter Try.func21, Try.ntmps21
  go_wp2_with fail
  go_quiet (first | (go_at_call 42; refine Calls.quiet_of_same (M _)))
  go_wp2_with (go_at_call 43; refine (rguard_any _ _ _).mono ?_; rintro e w1 ⟨rfl, rfl⟩)
  go_ret
  exact ⟨rfl, f0.trans (fr_drewN _ _)⟩

theorem rc_0 (o r b x g n : Int) (d : Bool) : rightC (K.mk 0 o r b x g n d) = ((decide (0 ≤ o) && decide (o < 1)) && ((bits .and .i64 r 0 == r) && ((b == 0) && (!d && (x == 0 && (g == 0 && n == 0)))))) := by
  rfl

theorem rright_0 (o r b x g n : Int) (d : Bool) (w : World) : Calls Try.prog 21 #[.agg #[.int .i64 0, .int .i64 o, .int .i64 r, .int .i64 b, .int .i64 x, .int .i64 g, .int .i64 n, .bool d]] w fun e w' => e = .returned (.bool (rightC (K.mk 0 o r b x g n d))) ∧ Fr none' w w' := by
  rw [rc_0]
  cases h1 : decide (o < 0)
  · cases h2 : decide (0 < o)
    · have hO : (decide (0 ≤ o) && decide (o < 1)) = true := by
        rw [decide_eq_false_iff_not] at h1 h2
        rw [decide_eq_true (show 0 ≤ o by omega), decide_eq_true (show o < 1 by omega)]; rfl
      rw [hO, Bool.true_and]
      cases h3 : decide (r < 0)
      · cases h4 : (bits .and .i64 r 0 != r)
        · have hR : (bits .and .i64 r 0 == r) = true := by simpa using h4
          rw [hR, Bool.true_and]
          cases h7 : (b != 0)
          · have hb : b = 0 := by simpa using h7
            have h5 : decide (b < 0) = false := by rw [decide_eq_false_iff_not]; omega
            have h6 : decide (1048576 ≤ b) = false := by rw [decide_eq_false_iff_not]; omega
            have hB : (b == 0) = true := by simpa using hb
            rw [hB, Bool.true_and]
            clear hb
            cases d
            · rw [Bool.not_false, Bool.true_and]
              cases h8 : (x == 0)
              · exact rr0_4a o r b x g n w h1 h2 h3 h4 h5 h6 h7 h8
              · cases h9 : (g == 0)
                · exact rr0_4b o r b x g n w h1 h2 h3 h4 h5 h6 h7 h8 h9
                · exact rr0_4c o r b x g n w h1 h2 h3 h4 h5 h6 h7 h8 h9
            · rw [Bool.not_true, Bool.false_and]
              exact rr0_3 o r b x g n w h1 h2 h3 h4 h5 h6 h7
          · have hB : (b == 0) = false := by simpa using h7
            rw [hB, Bool.false_and]
            exact rr0_2a o r b x g n d w h1 h2 h3 h4 h7
        · have hR : (bits .and .i64 r 0 == r) = false := by simpa using h4
          rw [hR, Bool.false_and]
          exact rr0_1b o r b x g n d w h1 h2 h3 h4
      · have hR : (bits .and .i64 r 0 == r) = false := by
          have h := (and_range r 0 (by omega)).1
          rw [decide_eq_true_eq] at h3
          rw [beq_eq_false_iff_ne]
          intro e
          have e' : bits .and .i64 r ((0 : Nat) : Int) = r := e
          omega
        rw [hR, Bool.false_and]
        exact rr0_1a o r b x g n d w h1 h2 h3
    · have hO : (decide (0 ≤ o) && decide (o < 1)) = false := by
        rw [decide_eq_true_eq] at h2
        rw [decide_eq_false (show ¬(o < 1) by omega), Bool.and_false]
      rw [hO, Bool.false_and]
      exact rr0_0b o r b x g n d w h1 h2
  · have hO : (decide (0 ≤ o) && decide (o < 1)) = false := by
      rw [decide_eq_true_eq] at h1
      rw [decide_eq_false (show ¬(0 ≤ o) by omega), Bool.false_and]
    rw [hO, Bool.false_and]
    exact rr0_0a o r b x g n d w h1

set_option maxRecDepth 100000 in
set_option maxHeartbeats 1600000 in
theorem rr9_0a (o r b x g n : Int) (d : Bool) (w : World) (h1 : decide (o < 0) = true) : Calls Try.prog 21 #[.agg #[.int .i64 9, .int .i64 o, .int .i64 r, .int .i64 b, .int .i64 x, .int .i64 g, .int .i64 n, .bool d]] w fun e w' => e = .returned (.bool false) ∧ Fr none' w w' := by
  have f0 := (Fr.refl none' w).alloc (.cells (cbox 9 o r b x g n d) 34)
  unfold cbox at f0
  go_enter Try.func21, Try.ntmps21
  go_wp2_with fail
  go_ret
  exact ⟨rfl, f0⟩

set_option maxRecDepth 100000 in
set_option maxHeartbeats 1600000 in
theorem rr9_0b (o r b x g n : Int) (d : Bool) (w : World) (h1 : decide (o < 0) = false) (h2 : decide (15 < o) = true) : Calls Try.prog 21 #[.agg #[.int .i64 9, .int .i64 o, .int .i64 r, .int .i64 b, .int .i64 x, .int .i64 g, .int .i64 n, .bool d]] w fun e w' => e = .returned (.bool false) ∧ Fr none' w w' := by
  have f0 := (Fr.refl none' w).alloc (.cells (cbox 9 o r b x g n d) 34)
  unfold cbox at f0
  go_enter Try.func21, Try.ntmps21
  go_wp2_with fail
  go_ret
  exact ⟨rfl, f0⟩

set_option maxRecDepth 100000 in
set_option maxHeartbeats 1600000 in
theorem rr9_1a (o r b x g n : Int) (d : Bool) (w : World) (h1 : decide (o < 0) = false) (h2 : decide (15 < o) = false) (h3 : decide (r < 0) = true) : Calls Try.prog 21 #[.agg #[.int .i64 9, .int .i64 o, .int .i64 r, .int .i64 b, .int .i64 x, .int .i64 g, .int .i64 n, .bool d]] w fun e w' => e = .returned (.bool false) ∧ Fr none' w w' := by
  have f0 := (Fr.refl none' w).alloc (.cells (cbox 9 o r b x g n d) 34)
  unfold cbox at f0
  go_enter Try.func21, Try.ntmps21
  go_wp2_with fail
  go_quiet (fail)
  go_wp2
  go_ret
  exact ⟨rfl, f0.trans (fr_drewN _ _)⟩

set_option maxRecDepth 100000 in
set_option maxHeartbeats 1600000 in
theorem rr9_1b (o r b x g n : Int) (d : Bool) (w : World) (h1 : decide (o < 0) = false) (h2 : decide (15 < o) = false) (h3 : decide (r < 0) = false) (h4 : (bits .and .i64 r 0 != r) = true) : Calls Try.prog 21 #[.agg #[.int .i64 9, .int .i64 o, .int .i64 r, .int .i64 b, .int .i64 x, .int .i64 g, .int .i64 n, .bool d]] w fun e w' => e = .returned (.bool false) ∧ Fr none' w w' := by
  have f0 := (Fr.refl none' w).alloc (.cells (cbox 9 o r b x g n d) 34)
  unfold cbox at f0
  have M : ∀ w, Calls Try.prog 42 #[.int .i64 9] w fun e w1 => e = .returned (.int .i64 0) ∧ w1 = w := fun w => rmay_any 9 w
  go_enter Try.func21, Try.ntmps21
  go_wp2_with fail
  go_quiet (first | (go_at_call 42; refine Calls.quiet_of_same (M _)))
  go_wp2_with (go_at_call 43; refine (rguard_any _ _ _).mono ?_; rintro e w1 ⟨rfl, rfl⟩)
  go_ret
  exact ⟨rfl, f0.trans (fr_drewN _ _)⟩

set_option maxRecDepth 100000 in
set_option maxHeartbeats 1600000 in
theorem rr9_2a (o r b x g n : Int) (d : Bool) (w : World) (h1 : decide (o < 0) = false) (h2 : decide (15 < o) = false) (h3 : decide (r < 0) = false) (h4 : (bits .and .i64 r 0 != r) = false) (h7 : (b != 0) = true) : Calls Try.prog 21 #[.agg #[.int .i64 9, .int .i64 o, .int .i64 r, .int .i64 b, .int .i64 x, .int .i64 g, .int .i64 n, .bool d]] w fun e w' => e = .returned (.bool false) ∧ Fr none' w w' := by
  have f0 := (Fr.refl none' w).alloc (.cells (cbox 9 o r b x g n d) 34)
  unfold cbox at f0
  have M : ∀ w, Calls Try.prog 42 #[.int .i64 9] w fun e w1 => e = .returned (.int .i64 0) ∧ w1 = w := fun w => rmay_any 9 w
  go_enter Try.func21, Try.ntmps21
  go_wp2_with fail
  go_quiet (first | (go_at_call 42; refine Calls.quiet_of_same (M _)))
  go_wp2_with (go_at_call 43; refine (rguard_any _ _ _).mono ?_; rintro e w1 ⟨rfl, rfl⟩)
  go_ret
  exact ⟨rfl, f0.trans (fr_drewN _ _)⟩

set_option maxRecDepth 100000 in
set_option maxHeartbeats 1600000 in
theorem rr9_3 (o r b x g n : Int) (w : World) (h1 : decide (o < 0) = false) (h2 : decide (15 < o) = false) (h3 : decide (r < 0) = false) (h4 : (bits .and .i64 r 0 != r) = false) (h5 : decide (b < 0) = false) (h6 : decide (1048576 ≤ b) = false) (h7 : (b != 0) = false) : Calls Try.prog 21 #[.agg #[.int .i64 9, .int .i64 o, .int .i64 r, .int .i64 b, .int .i64 x, .int .i64 g, .int .i64 n, .bool true]] w fun e w' => e = .returned (.bool false) ∧ Fr none' w w' := by
  have f0 := (Fr.refl none' w).alloc (.cells (cbox 9 o r b x g n true) 34)
  unfold cbox at f0
  have M : ∀ w, Calls Try.prog 42 #[.int .i64 9] w fun e w1 => e = .returned (.int .i64 0) ∧ w1 = w := fun w => rmay_any 9 w
  go_enter Try.func21, Try.ntmps21
  go_wp2_with fail
  go_quiet (first | (go_at_call 42; refine Calls.quiet_of_same (M _)))
  go_wp2_with (go_at_call 43; refine (rguard_any _ _ _).mono ?_; rintro e w1 ⟨rfl, rfl⟩)
  go_ret
  exact ⟨rfl, f0.trans (fr_drewN _ _)⟩

set_option maxRecDepth 100000 in
set_option maxHeartbeats 1600000 in
theorem rr9_4a (o r b x g n : Int) (w : World) (h1 : decide (o < 0) = false) (h2 : decide (15 < o) = false) (h3 : decide (r < 0) = false) (h4 : (bits .and .i64 r 0 != r) = false) (h5 : decide (b < 0) = false) (h6 : decide (1048576 ≤ b) = false) (h7 : (b != 0) = false) (h8 : (x == 0) = false) : Calls Try.prog 21 #[.agg #[.int .i64 9, .int .i64 o, .int .i64 r, .int .i64 b, .int .i64 x, .int .i64 g, .int .i64 n, .bool false]] w fun e w' => e = .returned (.bool false) ∧ Fr none' w w' := by
  have f0 := (Fr.refl none' w).alloc (.cells (cbox 9 o r b x g n false) 34)
  unfold cbox at f0
  have M : ∀ w, Calls Try.prog 42 #[.int .i64 9] w fun e w1 => e = .returned (.int .i64 0) ∧ w1 = w := fun w => rmay_any 9 w
  go_enter Try.func21, Try.ntmps21
  go_wp2_with fail
  go_quiet (first | (go_at_call 42; refine Calls.quiet_of_same (M _)))
  go_wp2_with (go_at_call 43; refine (rguard_any _ _ _).mono ?_; rintro e w1 ⟨rfl, rfl⟩)
  go_ret
  exact ⟨rfl, f0.trans (fr_drewN _ _)⟩

set_option maxRecDepth 100000 in
set_option maxHeartbeats 1600000 in
theorem rr9_4b (o r b x g n : Int) (w : World) (h1 : decide (o < 0) = false) (h2 : decide (15 < o) = false) (h3 : decide (r < 0) = false) (h4 : (bits .and .i64 r 0 != r) = false) (h5 : decide (b < 0) = false) (h6 : decide (1048576 ≤ b) = false) (h7 : (b != 0) = false) (h8 : (x == 0) = true) (h9 : (g == 0) = false) : Calls Try.prog 21 #[.agg #[.int .i64 9, .int .i64 o, .int .i64 r, .int .i64 b, .int .i64 x, .int .i64 g, .int .i64 n, .bool false]] w fun e w' => e = .returned (.bool false) ∧ Fr none' w w' := by
  have f0 := (Fr.refl none' w).alloc (.cells (cbox 9 o r b x g n false) 34)
  unfold cbox at f0
  have M : ∀ w, Calls Try.prog 42 #[.int .i64 9] w fun e w1 => e = .returned (.int .i64 0) ∧ w1 = w := fun w => rmay_any 9 w
  go_enter Try.func21, Try.ntmps21
  go_wp2_with fail
  go_quiet (first | (go_at_call 42; refine Calls.quiet_of_same (M _)))
  go_wp2_with (go_at_call 43; refine (rguard_any _ _ _).mono ?_; rintro e w1 ⟨rfl, rfl⟩)
  go_ret
  exact ⟨rfl, f0.trans (fr_drewN _ _)⟩

set_option maxRecDepth 100000 in
set_option maxHeartbeats 1600000 in
theorem rr9_4c (o r b x g n : Int) (w : World) (h1 : decide (o < 0) = false) (h2 : decide (15 < o) = false) (h3 : decide (r < 0) = false) (h4 : (bits .and .i64 r 0 != r) = false) (h5 : decide (b < 0) = false) (h6 : decide (1048576 ≤ b) = false) (h7 : (b != 0) = false) (h8 : (x == 0) = true) (h9 : (g == 0) = true) : Calls Try.prog 21 #[.agg #[.int .i64 9, .int .i64 o, .int .i64 r, .int .i64 b, .int .i64 x, .int .i64 g, .int .i64 n, .bool false]] w fun e w' => e = .returned (.bool (n == 0)) ∧ Fr none' w w' := by
  have f0 := (Fr.refl none' w).alloc (.cells (cbox 9 o r b x g n false) 34)
  unfold cbox at f0
  have M : ∀ w, Calls Try.prog 42 #[.int .i64 9] w fun e w1 => e = .returned (.int .i64 0) ∧ w1 = w := fun w => rmay_any 9 w
  go_enter Try.func21, Try.ntmps21
  go_wp2_with fail
  go_quiet (first | (go_at_call 42; refine Calls.quiet_of_same (M _)))
  go_wp2_with (go_at_call 43; refine (rguard_any _ _ _).mono ?_; rintro e w1 ⟨rfl, rfl⟩)
  go_ret
  exact ⟨rfl, f0.trans (fr_drewN _ _)⟩

theorem rc_9 (o r b x g n : Int) (d : Bool) : rightC (K.mk 9 o r b x g n d) = ((decide (0 ≤ o) && decide (o < 16)) && ((bits .and .i64 r 0 == r) && ((b == 0) && (!d && (x == 0 && (g == 0 && n == 0)))))) := by
  rfl

theorem rright_9 (o r b x g n : Int) (d : Bool) (w : World) : Calls Try.prog 21 #[.agg #[.int .i64 9, .int .i64 o, .int .i64 r, .int .i64 b, .int .i64 x, .int .i64 g, .int .i64 n, .bool d]] w fun e w' => e = .returned (.bool (rightC (K.mk 9 o r b x g n d))) ∧ Fr none' w w' := by
  rw [rc_9]
  cases h1 : decide (o < 0)
  · cases h2 : decide (15 < o)
    · have hO : (decide (0 ≤ o) && decide (o < 16)) = true := by
        rw [decide_eq_false_iff_not] at h1 h2
        rw [decide_eq_true (show 0 ≤ o by omega), decide_eq_true (show o < 16 by omega)]; rfl
      rw [hO, Bool.true_and]
      cases h3 : decide (r < 0)
      · cases h4 : (bits .and .i64 r 0 != r)
        · have hR : (bits .and .i64 r 0 == r) = true := by simpa using h4
          rw [hR, Bool.true_and]
          cases h7 : (b != 0)
          · have hb : b = 0 := by simpa using h7
            have h5 : decide (b < 0) = false := by rw [decide_eq_false_iff_not]; omega
            have h6 : decide (1048576 ≤ b) = false := by rw [decide_eq_false_iff_not]; omega
            have hB : (b == 0) = true := by simpa using hb
            rw [hB, Bool.true_and]
            clear hb
            cases d
            · rw [Bool.not_false, Bool.true_and]
              cases h8 : (x == 0)
              · exact rr9_4a o r b x g n w h1 h2 h3 h4 h5 h6 h7 h8
              · cases h9 : (g == 0)
                · exact rr9_4b o r b x g n w h1 h2 h3 h4 h5 h6 h7 h8 h9
                · exact rr9_4c o r b x g n w h1 h2 h3 h4 h5 h6 h7 h8 h9
            · rw [Bool.not_true, Bool.false_and]
              exact rr9_3 o r b x g n w h1 h2 h3 h4 h5 h6 h7
          · have hB : (b == 0) = false := by simpa using h7
            rw [hB, Bool.false_and]
            exact rr9_2a o r b x g n d w h1 h2 h3 h4 h7
        · have hR : (bits .and .i64 r 0 == r) = false := by simpa using h4
          rw [hR, Bool.false_and]
          exact rr9_1b o r b x g n d w h1 h2 h3 h4
      · have hR : (bits .and .i64 r 0 == r) = false := by
          have h := (and_range r 0 (by omega)).1
          rw [decide_eq_true_eq] at h3
          rw [beq_eq_false_iff_ne]
          intro e
          have e' : bits .and .i64 r ((0 : Nat) : Int) = r := e
          omega
        rw [hR, Bool.false_and]
        exact rr9_1a o r b x g n d w h1 h2 h3
    · have hO : (decide (0 ≤ o) && decide (o < 16)) = false := by
        rw [decide_eq_true_eq] at h2
        rw [decide_eq_false (show ¬(o < 16) by omega), Bool.and_false]
      rw [hO, Bool.false_and]
      exact rr9_0b o r b x g n d w h1 h2
  · have hO : (decide (0 ≤ o) && decide (o < 16)) = false := by
      rw [decide_eq_true_eq] at h1
      rw [decide_eq_false (show ¬(0 ≤ o) by omega), Bool.false_and]
    rw [hO, Bool.false_and]
    exact rr9_0a o r b x g n d w h1

set_option maxRecDepth 100000 in
set_option maxHeartbeats 1600000 in
theorem rr10_0a (o r b x g n : Int) (d : Bool) (w : World) (h1 : decide (o < 0) = true) : Calls Try.prog 21 #[.agg #[.int .i64 10, .int .i64 o, .int .i64 r, .int .i64 b, .int .i64 x, .int .i64 g, .int .i64 n, .bool d]] w fun e w' => e = .returned (.bool false) ∧ Fr none' w w' := by
  have f0 := (Fr.refl none' w).alloc (.cells (cbox 10 o r b x g n d) 34)
  unfold cbox at f0
  go_enter Try.func21, Try.ntmps21
  go_wp2_with fail
  go_ret
  exact ⟨rfl, f0⟩

set_option maxRecDepth 100000 in
set_option maxHeartbeats 1600000 in
theorem rr10_0b (o r b x g n : Int) (d : Bool) (w : World) (h1 : decide (o < 0) = false) (h2 : decide (31 < o) = true) : Calls Try.prog 21 #[.agg #[.int .i64 10, .int .i64 o, .int .i64 r, .int .i64 b, .int .i64 x, .int .i64 g, .int .i64 n, .bool d]] w fun e w' => e = .returned (.bool false) ∧ Fr none' w w' := by
  have f0 := (Fr.refl none' w).alloc (.cells (cbox 10 o r b x g n d) 34)
  unfold cbox at f0
  go_enter Try.func21, Try.ntmps21
  go_wp2_with fail
  go_ret
  exact ⟨rfl, f0⟩

set_option maxRecDepth 100000 in
set_option maxHeartbeats 1600000 in
theorem rr10_1a (o r b x g n : Int) (d : Bool) (w : World) (h1 : decide (o < 0) = false) (h2 : decide (31 < o) = false) (h3 : decide (r < 0) = true) : Calls Try.prog 21 #[.agg #[.int .i64 10, .int .i64 o, .int .i64 r, .int .i64 b, .int .i64 x, .int .i64 g, .int .i64 n, .bool d]] w fun e w' => e = .returned (.bool false) ∧ Fr none' w w' := by
  have f0 := (Fr.refl none' w).alloc (.cells (cbox 10 o r b x g n d) 34)
  unfold cbox at f0
  go_enter Try.func21, Try.ntmps21
  go_wp2_with fail
  go_quiet (fail)
  go_wp2
  go_ret
  exact ⟨rfl, f0.trans (fr_drewN _ _)⟩

set_option maxRecDepth 100000 in
set_option maxHeartbeats 1600000 in
theorem rr10_1b (o r b x g n : Int) (d : Bool) (w : World) (h1 : decide (o < 0) = false) (h2 : decide (31 < o) = false) (h3 : decide (r < 0) = false) (h4 : (bits .and .i64 r 0 != r) = true) : Calls Try.prog 21 #[.agg #[.int .i64 10, .int .i64 o, .int .i64 r, .int .i64 b, .int .i64 x, .int .i64 g, .int .i64 n, .bool d]] w fun e w' => e = .returned (.bool false) ∧ Fr none' w w' := by
  have f0 := (Fr.refl none' w).alloc (.cells (cbox 10 o r b x g n d) 34)
  unfold cbox at f0
  have M : ∀ w, Calls Try.prog 42 #[.int .i64 10] w fun e w1 => e = .returned (.int .i64 0) ∧ w1 = w := fun w => rmay_any 10 w
  go_enter Try.func21, Try.ntmps21
  go_wp2_with fail
  go_quiet (first | (go_at_call 42; refine Calls.quiet_of_same (M _)))
  go_wp2_with (go_at_call 43; refine (rguard_any _ _ _).mono ?_; rintro e w1 ⟨rfl, rfl⟩)
  go_ret
  exact ⟨rfl, f0.trans (fr_drewN _ _)⟩

set_option maxRecDepth 100000 in
set_option maxHeartbeats 1600000 in
theorem rr10_2a (o r b x g n : Int) (d : Bool) (w : World) (h1 : decide (o < 0) = false) (h2 : decide (31 < o) = false) (h3 : decide (r < 0) = false) (h4 : (bits .and .i64 r 0 != r) = false) (h7 : (b != 0) = true) : Calls Try.prog 21 #[.agg #[.int .i64 10, .int .i64 o, .int .i64 r, .int .i64 b, .int .i64 x, .int .i64 g, .int .i64 n, .bool d]] w fun e w' => e = .returned (.bool false) ∧ Fr none' w w' := by
  have f0 := (Fr.refl none' w).alloc (.cells (cbox 10 o r b x g n d) 34)
  unfold cbox at f0
  have M : ∀ w, Calls Try.prog 42 #[.int .i64 10] w fun e w1 => e = .returned (.int .i64 0) ∧ w1 = w := fun w => rmay_any 10 w
  go_enter Try.func21, Try.ntmps21
  go_wp2_with fail
  go_quiet (first | (go_at_call 42; refine Calls.quiet_of_same (M _)))
  go_wp2_with (go_at_call 43; refine (rguard_any _ _ _).mono ?_; rintro e w1 ⟨rfl, rfl⟩)
  go_ret
  exact ⟨rfl, f0.trans (fr_drewN _ _)⟩

set_option maxRecDepth 100000 in
set_option maxHeartbeats 1600000 in
theorem rr10_3 (o r b x g n : Int) (w : World) (h1 : decide (o < 0) = false) (h2 : decide (31 < o) = false) (h3 : decide (r < 0) = false) (h4 : (bits .and .i64 r 0 != r) = false) (h5 : decide (b < 0) = false) (h6 : decide (1048576 ≤ b) = false) (h7 : (b != 0) = false) : Calls Try.prog 21 #[.agg #[.int .i64 10, .int .i64 o, .int .i64 r, .int .i64 b, .int .i64 x, .int .i64 g, .int .i64 n, .bool true]] w fun e w' => e = .returned (.bool false) ∧ Fr none' w w' := by
  have f0 := (Fr.refl none' w).alloc (.cells (cbox 10 o r b x g n true) 34)
  unfold cbox at f0
  have M : ∀ w, Calls Try.prog 42 #[.int .i64 10] w fun e w1 => e = .returned (.int .i64 0) ∧ w1 = w := fun w => rmay_any 10 w
  go_enter Try.func21, Try.ntmps21
  go_wp2_with fail
  go_quiet (first | (go_at_call 42; refine Calls.quiet_of_same (M _)))
  go_wp2_with (go_at_call 43; refine (rguard_any _ _ _).mono ?_; rintro e w1 ⟨rfl, rfl⟩)
  go_ret
  exact ⟨rfl, f0.trans (fr_drewN _ _)⟩

set_option maxRecDepth 100000 in
set_option maxHeartbeats 1600000 in
theorem rr10_4a (o r b x g n : Int) (w : World) (h1 : decide (o < 0) = false) (h2 : decide (31 < o) = false) (h3 : decide (r < 0) = false) (h4 : (bits .and .i64 r 0 != r) = false) (h5 : decide (b < 0) = false) (h6 : decide (1048576 ≤ b) = false) (h7 : (b != 0) = false) (h8 : (x == 0) = false) : Calls Try.prog 21 #[.agg #[.int .i64 10, .int .i64 o, .int .i64 r, .int .i64 b, .int .i64 x, .int .i64 g, .int .i64 n, .bool false]] w fun e w' => e = .returned (.bool false) ∧ Fr none' w w' := by
  have f0 := (Fr.refl none' w).alloc (.cells (cbox 10 o r b x g n false) 34)
  unfold cbox at f0
  have M : ∀ w, Calls Try.prog 42 #[.int .i64 10] w fun e w1 => e = .returned (.int .i64 0) ∧ w1 = w := fun w => rmay_any 10 w
  go_enter Try.func21, Try.ntmps21
  go_wp2_with fail
  go_quiet (first | (go_at_call 42; refine Calls.quiet_of_same (M _)))
  go_wp2_with (go_at_call 43; refine (rguard_any _ _ _).mono ?_; rintro e w1 ⟨rfl, rfl⟩)
  go_ret
  exact ⟨rfl, f0.trans (fr_drewN _ _)⟩

set_option maxRecDepth 100000 in
set_option maxHeartbeats 1600000 in
theorem rr10_4b (o r b x g n : Int) (w : World) (h1 : decide (o < 0) = false) (h2 : decide (31 < o) = false) (h3 : decide (r < 0) = false) (h4 : (bits .and .i64 r 0 != r) = false) (h5 : decide (b < 0) = false) (h6 : decide (1048576 ≤ b) = false) (h7 : (b != 0) = false) (h8 : (x == 0) = true) (h9 : (g == 0) = false) : Calls Try.prog 21 #[.agg #[.int .i64 10, .int .i64 o, .int .i64 r, .int .i64 b, .int .i64 x, .int .i64 g, .int .i64 n, .bool false]] w fun e w' => e = .returned (.bool false) ∧ Fr none' w w' := by
  have f0 := (Fr.refl none' w).alloc (.cells (cbox 10 o r b x g n false) 34)
  unfold cbox at f0
  have M : ∀ w, Calls Try.prog 42 #[.int .i64 10] w fun e w1 => e = .returned (.int .i64 0) ∧ w1 = w := fun w => rmay_any 10 w
  go_enter Try.func21, Try.ntmps21
  go_wp2_with fail
  go_quiet (first | (go_at_call 42; refine Calls.quiet_of_same (M _)))
  go_wp2_with (go_at_call 43; refine (rguard_any _ _ _).mono ?_; rintro e w1 ⟨rfl, rfl⟩)
  go_ret
  exact ⟨rfl, f0.trans (fr_drewN _ _)⟩

set_option maxRecDepth 100000 in
set_option maxHeartbeats 1600000 in
theorem rr10_4c (o r b x g n : Int) (w : World) (h1 : decide (o < 0) = false) (h2 : decide (31 < o) = false) (h3 : decide (r < 0) = false) (h4 : (bits .and .i64 r 0 != r) = false) (h5 : decide (b < 0) = false) (h6 : decide (1048576 ≤ b) = false) (h7 : (b != 0) = false) (h8 : (x == 0) = true) (h9 : (g == 0) = true) : Calls Try.prog 21 #[.agg #[.int .i64 10, .int .i64 o, .int .i64 r, .int .i64 b, .int .i64 x, .int .i64 g, .int .i64 n, .bool false]] w fun e w' => e = .returned (.bool (n == 0)) ∧ Fr none' w w' := by
  have f0 := (Fr.refl none' w).alloc (.cells (cbox 10 o r b x g n false) 34)
  unfold cbox at f0
  have M : ∀ w, Calls Try.prog 42 #[.int .i64 10] w fun e w1 => e = .returned (.int .i64 0) ∧ w1 = w := fun w => rmay_any 10 w
  go_enter Try.func21, Try.ntmps21
  go_wp2_with fail
  go_quiet (first | (go_at_call 42; refine Calls.quiet_of_same (M _)))
  go_wp2_with (go_at_call 43; refine (rguard_any _ _ _).mono ?_; rintro e w1 ⟨rfl, rfl⟩)
  go_ret
  exact ⟨rfl, f0.trans (fr_drewN _ _)⟩

theorem rc_10 (o r b x g n : Int) (d : Bool) : rightC (K.mk 10 o r b x g n d) = ((decide (0 ≤ o) && decide (o < 32)) && ((bits .and .i64 r 0 == r) && ((b == 0) && (!d && (x == 0 && (g == 0 && n == 0)))))) := by
  rfl

theorem rright_10 (o r b x g n : Int) (d : Bool) (w : World) : Calls Try.prog 21 #[.agg #[.int .i64 10, .int .i64 o, .int .i64 r, .int .i64 b, .int .i64 x, .int .i64 g, .int .i64 n, .bool d]] w fun e w' => e = .returned (.bool (rightC (K.mk 10 o r b x g n d))) ∧ Fr none' w w' := by
  rw [rc_10]
  cases h1 : decide (o < 0)
  · cases h2 : decide (31 < o)
    · have hO : (decide (0 ≤ o) && decide (o < 32)) = true := by
        rw [decide_eq_false_iff_not] at h1 h2
        rw [decide_eq_true (show 0 ≤ o by omega), decide_eq_true (show o < 32 by omega)]; rfl
      rw [hO, Bool.true_and]
      cases h3 : decide (r < 0)
      · cases h4 : (bits .and .i64 r 0 != r)
        · have hR : (bits .and .i64 r 0 == r) = true := by simpa using h4
          rw [hR, Bool.true_and]
          cases h7 : (b != 0)
          · have hb : b = 0 := by simpa using h7
            have h5 : decide (b < 0) = false := by rw [decide_eq_false_iff_not]; omega
            have h6 : decide (1048576 ≤ b) = false := by rw [decide_eq_false_iff_not]; omega
            have hB : (b == 0) = true := by simpa using hb
            rw [hB, Bool.true_and]
            clear hb
            cases d
            · rw [Bool.not_false, Bool.true_and]
              cases h8 : (x == 0)
              · exact rr10_4a o r b x g n w h1 h2 h3 h4 h5 h6 h7 h8
              · cases h9 : (g == 0)
                · exact rr10_4b o r b x g n w h1 h2 h3 h4 h5 h6 h7 h8 h9
                · exact rr10_4c o r b x g n w h1 h2 h3 h4 h5 h6 h7 h8 h9
            · rw [Bool.not_true, Bool.false_and]
              exact rr10_3 o r b x g n w h1 h2 h3 h4 h5 h6 h7
          · have hB : (b == 0) = false := by simpa using h7
            rw [hB, Bool.false_and]
            exact rr10_2a o r b x g n d w h1 h2 h3 h4 h7
        · have hR : (bits .and .i64 r 0 == r) = false := by simpa using h4
          rw [hR, Bool.false_and]
          exact rr10_1b o r b x g n d w h1 h2 h3 h4
      · have hR : (bits .and .i64 r 0 == r) = false := by
          have h := (and_range r 0 (by omega)).1
          rw [decide_eq_true_eq] at h3
          rw [beq_eq_false_iff_ne]
          intro e
          have e' : bits .and .i64 r ((0 : Nat) : Int) = r := e
          omega
        rw [hR, Bool.false_and]
        exact rr10_1a o r b x g n d w h1 h2 h3
    · have hO : (decide (0 ≤ o) && decide (o < 32)) = false := by
        rw [decide_eq_true_eq] at h2
        rw [decide_eq_false (show ¬(o < 32) by omega), Bool.and_false]
      rw [hO, Bool.false_and]
      exact rr10_0b o r b x g n d w h1 h2
  · have hO : (decide (0 ≤ o) && decide (o < 32)) = false := by
      rw [decide_eq_true_eq] at h1
      rw [decide_eq_false (show ¬(0 ≤ o) by omega), Bool.false_and]
    rw [hO, Bool.false_and]
    exact rr10_0a o r b x g n d w h1

end Go.Proofs.Ytibdkadojoeopaa
