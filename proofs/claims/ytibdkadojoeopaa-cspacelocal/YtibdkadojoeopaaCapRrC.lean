/-
  Contract of the document's Right (package viceroyref11), of the kinds 4, 5, 6. No statement is proved here.
-/
import Derived.Test.YtibdkadojoeopaaCapRef
namespace Go.Proofs.Ytibdkadojoeopaa
open Go.RowKit

set_option maxRecDepth 100000 in
set_option maxHeartbeats 1600000 in
theorem rr4_0a (o r b x g n : Int) (d : Bool) (w : World) (h1 : decide (o < 0) = true) : Calls Try.prog 21 #[.agg #[.int .i64 4, .int .i64 o, .int .i64 r, .int .i64 b, .int .i64 x, .int .i64 g, .int .i64 n, .bool d]] w fun e w' => e = .returned (.bool false) ∧ Fr none' w w' := by
  have f0 := (Fr.refl none' w).alloc (.cells (cbox 4 o r b x g n d) 34)
  unfold cbox at f0
  go_enter Try.func21, Try.ntmps21
  go_wp2_with fail
  go_ret
  exact ⟨rfl, f0⟩

set_option maxRecDepth 100000 in
set_option maxHeartbeats 1600000 in
theorem rr4_0b (o r b x g n : Int) (d : Bool) (w : World) (h1 : decide (o < 0) = false) (h2 : decide (1023 < o) = true) : Calls Try.prog 21 #[.agg #[.int .i64 4, .int .i64 o, .int .i64 r, .int .i64 b, .int .i64 x, .int .i64 g, .int .i64 n, .bool d]] w fun e w' => e = .returned (.bool false) ∧ Fr none' w w' := by
  have f0 := (Fr.refl none' w).alloc (.cells (cbox 4 o r b x g n d) 34)
  unfold cbox at f0
  go_enter Try.func21, Try.ntmps21
  go_wp2_with fail
  go_ret
  exact ⟨rfl, f0⟩

set_option maxRecDepth 100000 in
set_option maxHeartbeats 1600000 in
theorem rr4_1a (o r b x g n : Int) (d : Bool) (w : World) (h1 : decide (o < 0) = false) (h2 : decide (1023 < o) = false) (h3 : decide (r < 0) = true) : Calls Try.prog 21 #[.agg #[.int .i64 4, .int .i64 o, .int .i64 r, .int .i64 b, .int .i64 x, .int .i64 g, .int .i64 n, .bool d]] w fun e w' => e = .returned (.bool false) ∧ Fr none' w w' := by
  have f0 := (Fr.refl none' w).alloc (.cells (cbox 4 o r b x g n d) 34)
  unfold cbox at f0
  go_enter Try.func21, Try.ntmps21
  go_wp2_with fail
  go_quiet (fail)
  go_wp2
  go_ret
  exact ⟨rfl, f0.trans (fr_drewN _ _)⟩

set_option maxRecDepth 100000 in
set_option maxHeartbeats 1600000 in
theorem rr4_1b (o r b x g n : Int) (d : Bool) (w : World) (h1 : decide (o < 0) = false) (h2 : decide (1023 < o) = false) (h3 : decide (r < 0) = false) (h4 : (bits .and .i64 r 11 != r) = true) : Calls Try.prog 21 #[.agg #[.int .i64 4, .int .i64 o, .int .i64 r, .int .i64 b, .int .i64 x, .int .i64 g, .int .i64 n, .bool d]] w fun e w' => e = .returned (.bool false) ∧ Fr none' w w' := by
  have f0 := (Fr.refl none' w).alloc (.cells (cbox 4 o r b x g n d) 34)
  unfold cbox at f0
  have M : ∀ w, Calls Try.prog 42 #[.int .i64 4] w fun e w1 => e = .returned (.int .i64 11) ∧ w1 = w := fun w => rmay_any 4 w
  go_enter Try.func21, Try.ntmps21
  go_wp2_with fail
  go_quiet (first | (go_at_call 42; refine Calls.quiet_of_same (M _)))
  go_wp2_with (go_at_call 43; refine (rguard_any _ _ _).mono ?_; rintro e w1 ⟨rfl, rfl⟩)
  go_ret
  exact ⟨rfl, f0.trans (fr_drewN _ _)⟩

set_option maxRecDepth 100000 in
set_option maxHeartbeats 1600000 in
theorem rr4_2a (o r b x g n : Int) (d : Bool) (w : World) (h1 : decide (o < 0) = false) (h2 : decide (1023 < o) = false) (h3 : decide (r < 0) = false) (h4 : (bits .and .i64 r 11 != r) = false) (h5 : decide (b < 0) = true) : Calls Try.prog 21 #[.agg #[.int .i64 4, .int .i64 o, .int .i64 r, .int .i64 b, .int .i64 x, .int .i64 g, .int .i64 n, .bool d]] w fun e w' => e = .returned (.bool false) ∧ Fr none' w w' := by
  have f0 := (Fr.refl none' w).alloc (.cells (cbox 4 o r b x g n d) 34)
  unfold cbox at f0
  have M : ∀ w, Calls Try.prog 42 #[.int .i64 4] w fun e w1 => e = .returned (.int .i64 11) ∧ w1 = w := fun w => rmay_any 4 w
  go_enter Try.func21, Try.ntmps21
  go_wp2_with fail
  go_quiet (first | (go_at_call 42; refine Calls.quiet_of_same (M _)))
  go_wp2_with (go_at_call 43; refine (rguard_any _ _ _).mono ?_; rintro e w1 ⟨rfl, rfl⟩)
  go_ret
  exact ⟨rfl, f0.trans (fr_drewN _ _)⟩

set_option maxRecDepth 100000 in
set_option maxHeartbeats 1600000 in
theorem rr4_2b (o r b x g n : Int) (d : Bool) (w : World) (h1 : decide (o < 0) = false) (h2 : decide (1023 < o) = false) (h3 : decide (r < 0) = false) (h4 : (bits .and .i64 r 11 != r) = false) (h5 : decide (b < 0) = false) (h6 : decide (1048576 ≤ b) = true) : Calls Try.prog 21 #[.agg #[.int .i64 4, .int .i64 o, .int .i64 r, .int .i64 b, .int .i64 x, .int .i64 g, .int .i64 n, .bool d]] w fun e w' => e = .returned (.bool false) ∧ Fr none' w w' := by
  have f0 := (Fr.refl none' w).alloc (.cells (cbox 4 o r b x g n d) 34)
  unfold cbox at f0
  have M : ∀ w, Calls Try.prog 42 #[.int .i64 4] w fun e w1 => e = .returned (.int .i64 11) ∧ w1 = w := fun w => rmay_any 4 w
  go_enter Try.func21, Try.ntmps21
  go_wp2_with fail
  go_quiet (first | (go_at_call 42; refine Calls.quiet_of_same (M _)))
  go_wp2_with (go_at_call 43; refine (rguard_any _ _ _).mono ?_; rintro e w1 ⟨rfl, rfl⟩)
  go_ret
  exact ⟨rfl, f0.trans (fr_drewN _ _)⟩

set_option maxRecDepth 100000 in
set_option maxHeartbeats 1600000 in
theorem rr4_3 (o r b x g n : Int) (w : World) (h1 : decide (o < 0) = false) (h2 : decide (1023 < o) = false) (h3 : decide (r < 0) = false) (h4 : (bits .and .i64 r 11 != r) = false) (h5 : decide (b < 0) = false) (h6 : decide (1048576 ≤ b) = false) : Calls Try.prog 21 #[.agg #[.int .i64 4, .int .i64 o, .int .i64 r, .int .i64 b, .int .i64 x, .int .i64 g, .int .i64 n, .bool true]] w fun e w' => e = .returned (.bool false) ∧ Fr none' w w' := by
  have f0 := (Fr.refl none' w).alloc (.cells (cbox 4 o r b x g n true) 34)
  unfold cbox at f0
  have M : ∀ w, Calls Try.prog 42 #[.int .i64 4] w fun e w1 => e = .returned (.int .i64 11) ∧ w1 = w := fun w => rmay_any 4 w
  go_enter Try.func21, Try.ntmps21
  go_wp2_with fail
  go_quiet (first | (go_at_call 42; refine Calls.quiet_of_same (M _)))
  go_wp2_with (go_at_call 43; refine (rguard_any _ _ _).mono ?_; rintro e w1 ⟨rfl, rfl⟩)
  go_ret
  exact ⟨rfl, f0.trans (fr_drewN _ _)⟩

set_option maxRecDepth 100000 in
set_option maxHeartbeats 1600000 in
theorem rr4_4a (o r b x g n : Int) (w : World) (h1 : decide (o < 0) = false) (h2 : decide (1023 < o) = false) (h3 : decide (r < 0) = false) (h4 : (bits .and .i64 r 11 != r) = false) (h5 : decide (b < 0) = false) (h6 : decide (1048576 ≤ b) = false) (h8 : (x == 0) = false) : Calls Try.prog 21 #[.agg #[.int .i64 4, .int .i64 o, .int .i64 r, .int .i64 b, .int .i64 x, .int .i64 g, .int .i64 n, .bool false]] w fun e w' => e = .returned (.bool false) ∧ Fr none' w w' := by
  have f0 := (Fr.refl none' w).alloc (.cells (cbox 4 o r b x g n false) 34)
  unfold cbox at f0
  have M : ∀ w, Calls Try.prog 42 #[.int .i64 4] w fun e w1 => e = .returned (.int .i64 11) ∧ w1 = w := fun w => rmay_any 4 w
  go_enter Try.func21, Try.ntmps21
  go_wp2_with fail
  go_quiet (first | (go_at_call 42; refine Calls.quiet_of_same (M _)))
  go_wp2_with (go_at_call 43; refine (rguard_any _ _ _).mono ?_; rintro e w1 ⟨rfl, rfl⟩)
  go_ret
  exact ⟨rfl, f0.trans (fr_drewN _ _)⟩

set_option maxRecDepth 100000 in
set_option maxHeartbeats 1600000 in
theorem rr4_4b (o r b x g n : Int) (w : World) (h1 : decide (o < 0) = false) (h2 : decide (1023 < o) = false) (h3 : decide (r < 0) = false) (h4 : (bits .and .i64 r 11 != r) = false) (h5 : decide (b < 0) = false) (h6 : decide (1048576 ≤ b) = false) (h8 : (x == 0) = true) (h9 : (g == 0) = false) : Calls Try.prog 21 #[.agg #[.int .i64 4, .int .i64 o, .int .i64 r, .int .i64 b, .int .i64 x, .int .i64 g, .int .i64 n, .bool false]] w fun e w' => e = .returned (.bool false) ∧ Fr none' w w' := by
  have f0 := (Fr.refl none' w).alloc (.cells (cbox 4 o r b x g n false) 34)
  unfold cbox at f0
  have M : ∀ w, Calls Try.prog 42 #[.int .i64 4] w fun e w1 => e = .returned (.int .i64 11) ∧ w1 = w := fun w => rmay_any 4 w
  go_enter Try.func21, Try.ntmps21
  go_wp2_with fail
  go_quiet (first | (go_at_call 42; refine Calls.quiet_of_same (M _)))
  go_wp2_with (go_at_call 43; refine (rguard_any _ _ _).mono ?_; rintro e w1 ⟨rfl, rfl⟩)
  go_ret
  exact ⟨rfl, f0.trans (fr_drewN _ _)⟩

set_option maxRecDepth 100000 in
set_option maxHeartbeats 1600000 in
theorem rr4_4c (o r b x g n : Int) (w : World) (h1 : decide (o < 0) = false) (h2 : decide (1023 < o) = false) (h3 : decide (r < 0) = false) (h4 : (bits .and .i64 r 11 != r) = false) (h5 : decide (b < 0) = false) (h6 : decide (1048576 ≤ b) = false) (h8 : (x == 0) = true) (h9 : (g == 0) = true) : Calls Try.prog 21 #[.agg #[.int .i64 4, .int .i64 o, .int .i64 r, .int .i64 b, .int .i64 x, .int .i64 g, .int .i64 n, .bool false]] w fun e w' => e = .returned (.bool (n == 0)) ∧ Fr none' w w' := by
  have f0 := (Fr.refl none' w).alloc (.cells (cbox 4 o r b x g n false) 34)
  unfold cbox at f0
  have M : ∀ w, Calls Try.prog 42 #[.int .i64 4] w fun e w1 => e = .returned (.int .i64 11) ∧ w1 = w := fun w => rmay_any 4 w
  go_enter Try.func21, Try.ntmps21
  go_wp2_with fail
  go_quiet (first | (go_at_call 42; refine Calls.quiet_of_same (M _)))
  go_wp2_with (go_at_call 43; refine (rguard_any _ _ _).mono ?_; rintro e w1 ⟨rfl, rfl⟩)
  go_ret
  exact ⟨rfl, f0.trans (fr_drewN _ _)⟩

theorem rc_4 (o r b x g n : Int) (d : Bool) : rightC (K.mk 4 o r b x g n d) = ((decide (0 ≤ o) && decide (o < 1024)) && ((bits .and .i64 r 11 == r) && (bOk b && (!d && (x == 0 && (g == 0 && n == 0)))))) := by
  rfl

theorem rright_4 (o r b x g n : Int) (d : Bool) (w : World) : Calls Try.prog 21 #[.agg #[.int .i64 4, .int .i64 o, .int .i64 r, .int .i64 b, .int .i64 x, .int .i64 g, .int .i64 n, .bool d]] w fun e w' => e = .returned (.bool (rightC (K.mk 4 o r b x g n d))) ∧ Fr none' w w' := by
  rw [rc_4]
  cases h1 : decide (o < 0)
  · cases h2 : decide (1023 < o)
    · have hO : (decide (0 ≤ o) && decide (o < 1024)) = true := by
        rw [decide_eq_false_iff_not] at h1 h2
        rw [decide_eq_true (show 0 ≤ o by omega), decide_eq_true (show o < 1024 by omega)]; rfl
      rw [hO, Bool.true_and]
      cases h3 : decide (r < 0)
      · cases h4 : (bits .and .i64 r 11 != r)
        · have hR : (bits .and .i64 r 11 == r) = true := by simpa using h4
          rw [hR, Bool.true_and]
          cases h5 : decide (b < 0)
          · cases h6 : decide (1048576 ≤ b)
            · have hB : bOk b = true := by
                rw [decide_eq_false_iff_not] at h5 h6
                unfold bOk
                rw [decide_eq_true (show 0 ≤ b by omega), decide_eq_true (show b ≤ 1048575 by omega)]; rfl
              rw [hB, Bool.true_and]
              cases d
              · rw [Bool.not_false, Bool.true_and]
                cases h8 : (x == 0)
                · exact rr4_4a o r b x g n w h1 h2 h3 h4 h5 h6 h8
                · cases h9 : (g == 0)
                  · exact rr4_4b o r b x g n w h1 h2 h3 h4 h5 h6 h8 h9
                  · exact rr4_4c o r b x g n w h1 h2 h3 h4 h5 h6 h8 h9
              · rw [Bool.not_true, Bool.false_and]
                exact rr4_3 o r b x g n w h1 h2 h3 h4 h5 h6
            · have hB : bOk b = false := by
                rw [decide_eq_true_eq] at h6
                unfold bOk
                rw [decide_eq_false (show ¬(b ≤ 1048575) by omega), Bool.and_false]
              rw [hB, Bool.false_and]
              exact rr4_2b o r b x g n d w h1 h2 h3 h4 h5 h6
          · have hB : bOk b = false := by
              rw [decide_eq_true_eq] at h5
              unfold bOk
              rw [decide_eq_false (show ¬(0 ≤ b) by omega), Bool.false_and]
            rw [hB, Bool.false_and]
            exact rr4_2a o r b x g n d w h1 h2 h3 h4 h5
        · have hR : (bits .and .i64 r 11 == r) = false := by simpa using h4
          rw [hR, Bool.false_and]
          exact rr4_1b o r b x g n d w h1 h2 h3 h4
      · have hR : (bits .and .i64 r 11 == r) = false := by
          have h := (and_range r 11 (by omega)).1
          rw [decide_eq_true_eq] at h3
          rw [beq_eq_false_iff_ne]
          intro e
          have e' : bits .and .i64 r ((11 : Nat) : Int) = r := e
          omega
        rw [hR, Bool.false_and]
        exact rr4_1a o r b x g n d w h1 h2 h3
    · have hO : (decide (0 ≤ o) && decide (o < 1024)) = false := by
        rw [decide_eq_true_eq] at h2
        rw [decide_eq_false (show ¬(o < 1024) by omega), Bool.and_false]
      rw [hO, Bool.false_and]
      exact rr4_0b o r b x g n d w h1 h2
  · have hO : (decide (0 ≤ o) && decide (o < 1024)) = false := by
      rw [decide_eq_true_eq] at h1
      rw [decide_eq_false (show ¬(0 ≤ o) by omega), Bool.false_and]
    rw [hO, Bool.false_and]
    exact rr4_0a o r b x g n d w h1

set_option maxRecDepth 100000 in
set_option maxHeartbeats 1600000 in
theorem rr5_0a (o r b x g n : Int) (d : Bool) (w : World) (h1 : decide (o < 0) = true) : Calls Try.prog 21 #[.agg #[.int .i64 5, .int .i64 o, .int .i64 r, .int .i64 b, .int .i64 x, .int .i64 g, .int .i64 n, .bool d]] w fun e w' => e = .returned (.bool false) ∧ Fr none' w w' := by
  have f0 := (Fr.refl none' w).alloc (.cells (cbox 5 o r b x g n d) 34)
  unfold cbox at f0
  go_enter Try.func21, Try.ntmps21
  go_wp2_with fail
  go_ret
  exact ⟨rfl, f0⟩

set_option maxRecDepth 100000 in
set_option maxHeartbeats 1600000 in
theorem rr5_0b (o r b x g n : Int) (d : Bool) (w : World) (h1 : decide (o < 0) = false) (h2 : decide (1023 < o) = true) : Calls Try.prog 21 #[.agg #[.int .i64 5, .int .i64 o, .int .i64 r, .int .i64 b, .int .i64 x, .int .i64 g, .int .i64 n, .bool d]] w fun e w' => e = .returned (.bool false) ∧ Fr none' w w' := by
  have f0 := (Fr.refl none' w).alloc (.cells (cbox 5 o r b x g n d) 34)
  unfold cbox at f0
  go_enter Try.func21, Try.ntmps21
  go_wp2_with fail
  go_ret
  exact ⟨rfl, f0⟩

set_option maxRecDepth 100000 in
set_option maxHeartbeats 1600000 in
theorem rr5_1a (o r b x g n : Int) (d : Bool) (w : World) (h1 : decide (o < 0) = false) (h2 : decide (1023 < o) = false) (h3 : decide (r < 0) = true) : Calls Try.prog 21 #[.agg #[.int .i64 5, .int .i64 o, .int .i64 r, .int .i64 b, .int .i64 x, .int .i64 g, .int .i64 n, .bool d]] w fun e w' => e = .returned (.bool false) ∧ Fr none' w w' := by
  have f0 := (Fr.refl none' w).alloc (.cells (cbox 5 o r b x g n d) 34)
  unfold cbox at f0
  go_enter Try.func21, Try.ntmps21
  go_wp2_with fail
  go_quiet (fail)
  go_wp2
  go_ret
  exact ⟨rfl, f0.trans (fr_drewN _ _)⟩

set_option maxRecDepth 100000 in
set_option maxHeartbeats 1600000 in
theorem rr5_1b (o r b x g n : Int) (d : Bool) (w : World) (h1 : decide (o < 0) = false) (h2 : decide (1023 < o) = false) (h3 : decide (r < 0) = false) (h4 : (bits .and .i64 r 3 != r) = true) : Calls Try.prog 21 #[.agg #[.int .i64 5, .int .i64 o, .int .i64 r, .int .i64 b, .int .i64 x, .int .i64 g, .int .i64 n, .bool d]] w fun e w' => e = .returned (.bool false) ∧ Fr none' w w' := by
  have f0 := (Fr.refl none' w).alloc (.cells (cbox 5 o r b x g n d) 34)
  unfold cbox at f0
  have M : ∀ w, Calls Try.prog 42 #[.int .i64 5] w fun e w1 => e = .returned (.int .i64 3) ∧ w1 = w := fun w => rmay_any 5 w
  go_enter Try.func21, Try.ntmps21
  go_wp2_with fail
  go_quiet (first | (go_at_call 42; refine Calls.quiet_of_same (M _)))
  go_wp2_with (go_at_call 43; refine (rguard_any _ _ _).mono ?_; rintro e w1 ⟨rfl, rfl⟩)
  go_ret
  exact ⟨rfl, f0.trans (fr_drewN _ _)⟩

set_option maxRecDepth 100000 in
set_option maxHeartbeats 1600000 in
theorem rr5_2a (o r b x g n : Int) (d : Bool) (w : World) (h1 : decide (o < 0) = false) (h2 : decide (1023 < o) = false) (h3 : decide (r < 0) = false) (h4 : (bits .and .i64 r 3 != r) = false) (h5 : decide (b < 0) = true) : Calls Try.prog 21 #[.agg #[.int .i64 5, .int .i64 o, .int .i64 r, .int .i64 b, .int .i64 x, .int .i64 g, .int .i64 n, .bool d]] w fun e w' => e = .returned (.bool false) ∧ Fr none' w w' := by
  have f0 := (Fr.refl none' w).alloc (.cells (cbox 5 o r b x g n d) 34)
  unfold cbox at f0
  have M : ∀ w, Calls Try.prog 42 #[.int .i64 5] w fun e w1 => e = .returned (.int .i64 3) ∧ w1 = w := fun w => rmay_any 5 w
  go_enter Try.func21, Try.ntmps21
  go_wp2_with fail
  go_quiet (first | (go_at_call 42; refine Calls.quiet_of_same (M _)))
  go_wp2_with (go_at_call 43; refine (rguard_any _ _ _).mono ?_; rintro e w1 ⟨rfl, rfl⟩)
  go_ret
  exact ⟨rfl, f0.trans (fr_drewN _ _)⟩

set_option maxRecDepth 100000 in
set_option maxHeartbeats 1600000 in
theorem rr5_2b (o r b x g n : Int) (d : Bool) (w : World) (h1 : decide (o < 0) = false) (h2 : decide (1023 < o) = false) (h3 : decide (r < 0) = false) (h4 : (bits .and .i64 r 3 != r) = false) (h5 : decide (b < 0) = false) (h6 : decide (1048576 ≤ b) = true) : Calls Try.prog 21 #[.agg #[.int .i64 5, .int .i64 o, .int .i64 r, .int .i64 b, .int .i64 x, .int .i64 g, .int .i64 n, .bool d]] w fun e w' => e = .returned (.bool false) ∧ Fr none' w w' := by
  have f0 := (Fr.refl none' w).alloc (.cells (cbox 5 o r b x g n d) 34)
  unfold cbox at f0
  have M : ∀ w, Calls Try.prog 42 #[.int .i64 5] w fun e w1 => e = .returned (.int .i64 3) ∧ w1 = w := fun w => rmay_any 5 w
  go_enter Try.func21, Try.ntmps21
  go_wp2_with fail
  go_quiet (first | (go_at_call 42; refine Calls.quiet_of_same (M _)))
  go_wp2_with (go_at_call 43; refine (rguard_any _ _ _).mono ?_; rintro e w1 ⟨rfl, rfl⟩)
  go_ret
  exact ⟨rfl, f0.trans (fr_drewN _ _)⟩

set_option maxRecDepth 100000 in
set_option maxHeartbeats 1600000 in
theorem rr5_3 (o r b x g n : Int) (w : World) (h1 : decide (o < 0) = false) (h2 : decide (1023 < o) = false) (h3 : decide (r < 0) = false) (h4 : (bits .and .i64 r 3 != r) = false) (h5 : decide (b < 0) = false) (h6 : decide (1048576 ≤ b) = false) : Calls Try.prog 21 #[.agg #[.int .i64 5, .int .i64 o, .int .i64 r, .int .i64 b, .int .i64 x, .int .i64 g, .int .i64 n, .bool true]] w fun e w' => e = .returned (.bool false) ∧ Fr none' w w' := by
  have f0 := (Fr.refl none' w).alloc (.cells (cbox 5 o r b x g n true) 34)
  unfold cbox at f0
  have M : ∀ w, Calls Try.prog 42 #[.int .i64 5] w fun e w1 => e = .returned (.int .i64 3) ∧ w1 = w := fun w => rmay_any 5 w
  go_enter Try.func21, Try.ntmps21
  go_wp2_with fail
  go_quiet (first | (go_at_call 42; refine Calls.quiet_of_same (M _)))
  go_wp2_with (go_at_call 43; refine (rguard_any _ _ _).mono ?_; rintro e w1 ⟨rfl, rfl⟩)
  go_ret
  exact ⟨rfl, f0.trans (fr_drewN _ _)⟩

set_option maxRecDepth 100000 in
set_option maxHeartbeats 1600000 in
theorem rr5_4a (o r b x g n : Int) (w : World) (h1 : decide (o < 0) = false) (h2 : decide (1023 < o) = false) (h3 : decide (r < 0) = false) (h4 : (bits .and .i64 r 3 != r) = false) (h5 : decide (b < 0) = false) (h6 : decide (1048576 ≤ b) = false) (h8 : (x == 0) = false) : Calls Try.prog 21 #[.agg #[.int .i64 5, .int .i64 o, .int .i64 r, .int .i64 b, .int .i64 x, .int .i64 g, .int .i64 n, .bool false]] w fun e w' => e = .returned (.bool false) ∧ Fr none' w w' := by
  have f0 := (Fr.refl none' w).alloc (.cells (cbox 5 o r b x g n false) 34)
  unfold cbox at f0
  have M : ∀ w, Calls Try.prog 42 #[.int .i64 5] w fun e w1 => e = .returned (.int .i64 3) ∧ w1 = w := fun w => rmay_any 5 w
  go_enter Try.func21, Try.ntmps21
  go_wp2_with fail
  go_quiet (first | (go_at_call 42; refine Calls.quiet_of_same (M _)))
  go_wp2_with (go_at_call 43; refine (rguard_any _ _ _).mono ?_; rintro e w1 ⟨rfl, rfl⟩)
  go_ret
  exact ⟨rfl, f0.trans (fr_drewN _ _)⟩

set_option maxRecDepth 100000 in
set_option maxHeartbeats 1600000 in
theorem rr5_4b (o r b x g n : Int) (w : World) (h1 : decide (o < 0) = false) (h2 : decide (1023 < o) = false) (h3 : decide (r < 0) = false) (h4 : (bits .and .i64 r 3 != r) = false) (h5 : decide (b < 0) = false) (h6 : decide (1048576 ≤ b) = false) (h8 : (x == 0) = true) (h9 : (g == 0) = false) : Calls Try.prog 21 #[.agg #[.int .i64 5, .int .i64 o, .int .i64 r, .int .i64 b, .int .i64 x, .int .i64 g, .int .i64 n, .bool false]] w fun e w' => e = .returned (.bool false) ∧ Fr none' w w' := by
  have f0 := (Fr.refl none' w).alloc (.cells (cbox 5 o r b x g n false) 34)
  unfold cbox at f0
  have M : ∀ w, Calls Try.prog 42 #[.int .i64 5] w fun e w1 => e = .returned (.int .i64 3) ∧ w1 = w := fun w => rmay_any 5 w
  go_enter Try.func21, Try.ntmps21
  go_wp2_with fail
  go_quiet (first | (go_at_call 42; refine Calls.quiet_of_same (M _)))
  go_wp2_with (go_at_call 43; refine (rguard_any _ _ _).mono ?_; rintro e w1 ⟨rfl, rfl⟩)
  go_ret
  exact ⟨rfl, f0.trans (fr_drewN _ _)⟩

set_option maxRecDepth 100000 in
set_option maxHeartbeats 1600000 in
theorem rr5_4c (o r b x g n : Int) (w : World) (h1 : decide (o < 0) = false) (h2 : decide (1023 < o) = false) (h3 : decide (r < 0) = false) (h4 : (bits .and .i64 r 3 != r) = false) (h5 : decide (b < 0) = false) (h6 : decide (1048576 ≤ b) = false) (h8 : (x == 0) = true) (h9 : (g == 0) = true) : Calls Try.prog 21 #[.agg #[.int .i64 5, .int .i64 o, .int .i64 r, .int .i64 b, .int .i64 x, .int .i64 g, .int .i64 n, .bool false]] w fun e w' => e = .returned (.bool (n == 0)) ∧ Fr none' w w' := by
  have f0 := (Fr.refl none' w).alloc (.cells (cbox 5 o r b x g n false) 34)
  unfold cbox at f0
  have M : ∀ w, Calls Try.prog 42 #[.int .i64 5] w fun e w1 => e = .returned (.int .i64 3) ∧ w1 = w := fun w => rmay_any 5 w
  go_enter Try.func21, Try.ntmps21
  go_wp2_with fail
  go_quiet (first | (go_at_call 42; refine Calls.quiet_of_same (M _)))
  go_wp2_with (go_at_call 43; refine (rguard_any _ _ _).mono ?_; rintro e w1 ⟨rfl, rfl⟩)
  go_ret
  exact ⟨rfl, f0.trans (fr_drewN _ _)⟩

theorem rc_5 (o r b x g n : Int) (d : Bool) : rightC (K.mk 5 o r b x g n d) = ((decide (0 ≤ o) && decide (o < 1024)) && ((bits .and .i64 r 3 == r) && (bOk b && (!d && (x == 0 && (g == 0 && n == 0)))))) := by
  rfl

theorem rright_5 (o r b x g n : Int) (d : Bool) (w : World) : Calls Try.prog 21 #[.agg #[.int .i64 5, .int .i64 o, .int .i64 r, .int .i64 b, .int .i64 x, .int .i64 g, .int .i64 n, .bool d]] w fun e w' => e = .returned (.bool (rightC (K.mk 5 o r b x g n d))) ∧ Fr none' w w' := by
  rw [rc_5]
  cases h1 : decide (o < 0)
  · cases h2 : decide (1023 < o)
    · have hO : (decide (0 ≤ o) && decide (o < 1024)) = true := by
        rw [decide_eq_false_iff_not] at h1 h2
        rw [decide_eq_true (show 0 ≤ o by omega), decide_eq_true (show o < 1024 by omega)]; rfl
      rw [hO, Bool.true_and]
      cases h3 : decide (r < 0)
      · cases h4 : (bits .and .i64 r 3 != r)
        · have hR : (bits .and .i64 r 3 == r) = true := by simpa using h4
          rw [hR, Bool.true_and]
          cases h5 : decide (b < 0)
          · cases h6 : decide (1048576 ≤ b)
            · have hB : bOk b = true := by
                rw [decide_eq_false_iff_not] at h5 h6
                unfold bOk
                rw [decide_eq_true (show 0 ≤ b by omega), decide_eq_true (show b ≤ 1048575 by omega)]; rfl
              rw [hB, Bool.true_and]
              cases d
              · rw [Bool.not_false, Bool.true_and]
                cases h8 : (x == 0)
                · exact rr5_4a o r b x g n w h1 h2 h3 h4 h5 h6 h8
                · cases h9 : (g == 0)
                  · exact rr5_4b o r b x g n w h1 h2 h3 h4 h5 h6 h8 h9
                  · exact rr5_4c o r b x g n w h1 h2 h3 h4 h5 h6 h8 h9
              · rw [Bool.not_true, Bool.false_and]
                exact rr5_3 o r b x g n w h1 h2 h3 h4 h5 h6
            · have hB : bOk b = false := by
                rw [decide_eq_true_eq] at h6
                unfold bOk
                rw [decide_eq_false (show ¬(b ≤ 1048575) by omega), Bool.and_false]
              rw [hB, Bool.false_and]
              exact rr5_2b o r b x g n d w h1 h2 h3 h4 h5 h6
          · have hB : bOk b = false := by
              rw [decide_eq_true_eq] at h5
              unfold bOk
              rw [decide_eq_false (show ¬(0 ≤ b) by omega), Bool.false_and]
            rw [hB, Bool.false_and]
            exact rr5_2a o r b x g n d w h1 h2 h3 h4 h5
        · have hR : (bits .and .i64 r 3 == r) = false := by simpa using h4
          rw [hR, Bool.false_and]
          exact rr5_1b o r b x g n d w h1 h2 h3 h4
      · have hR : (bits .and .i64 r 3 == r) = false := by
          have h := (and_range r 3 (by omega)).1
          rw [decide_eq_true_eq] at h3
          rw [beq_eq_false_iff_ne]
          intro e
          have e' : bits .and .i64 r ((3 : Nat) : Int) = r := e
          omega
        rw [hR, Bool.false_and]
        exact rr5_1a o r b x g n d w h1 h2 h3
    · have hO : (decide (0 ≤ o) && decide (o < 1024)) = false := by
        rw [decide_eq_true_eq] at h2
        rw [decide_eq_false (show ¬(o < 1024) by omega), Bool.and_false]
      rw [hO, Bool.false_and]
      exact rr5_0b o r b x g n d w h1 h2
  · have hO : (decide (0 ≤ o) && decide (o < 1024)) = false := by
      rw [decide_eq_true_eq] at h1
      rw [decide_eq_false (show ¬(0 ≤ o) by omega), Bool.false_and]
    rw [hO, Bool.false_and]
    exact rr5_0a o r b x g n d w h1

set_option maxRecDepth 100000 in
set_option maxHeartbeats 1600000 in
theorem rr6_0a (o r b x g n : Int) (d : Bool) (w : World) (h1 : decide (o < 0) = true) : Calls Try.prog 21 #[.agg #[.int .i64 6, .int .i64 o, .int .i64 r, .int .i64 b, .int .i64 x, .int .i64 g, .int .i64 n, .bool d]] w fun e w' => e = .returned (.bool false) ∧ Fr none' w w' := by
  have f0 := (Fr.refl none' w).alloc (.cells (cbox 6 o r b x g n d) 34)
  unfold cbox at f0
  cases d
  all_goals go_enter Try.func21, Try.ntmps21
  all_goals go_wp2_with fail
  all_goals go_ret
  all_goals exact ⟨rfl, f0⟩

set_option maxRecDepth 100000 in
set_option maxHeartbeats 1600000 in
theorem rr6_0b (o r b x g n : Int) (d : Bool) (w : World) (h1 : decide (o < 0) = false) (h2 : decide (1023 < o) = true) : Calls Try.prog 21 #[.agg #[.int .i64 6, .int .i64 o, .int .i64 r, .int .i64 b, .int .i64 x, .int .i64 g, .int .i64 n, .bool d]] w fun e w' => e = .returned (.bool false) ∧ Fr none' w w' := by
  have f0 := (Fr.refl none' w).alloc (.cells (cbox 6 o r b x g n d) 34)
  unfold cbox at f0
  cases d
  all_goals go_enter Try.func21, Try.ntmps21
  all_goals go_wp2_with fail
  all_goals go_ret
  all_goals exact ⟨rfl, f0⟩

set_option maxRecDepth 100000 in
set_option maxHeartbeats 1600000 in
theorem rr6_1a (o r b x g n : Int) (d : Bool) (w : World) (h1 : decide (o < 0) = false) (h2 : decide (1023 < o) = false) (h3 : decide (r < 0) = true) : Calls Try.prog 21 #[.agg #[.int .i64 6, .int .i64 o, .int .i64 r, .int .i64 b, .int .i64 x, .int .i64 g, .int .i64 n, .bool d]] w fun e w' => e = .returned (.bool false) ∧ Fr none' w w' := by
  have f0 := (Fr.refl none' w).alloc (.cells (cbox 6 o r b x g n d) 34)
  unfold cbox at f0
  cases d
  all_goals go_enter Try.func21, Try.ntmps21
  all_goals go_wp2_with fail
  all_goals go_quiet (fail)
  all_goals go_wp2
  all_goals go_ret
  all_goals exact ⟨rfl, f0.trans (fr_drewN _ _)⟩

set_option maxRecDepth 100000 in
set_option maxHeartbeats 1600000 in
theorem rr6_1b (o r b x g n : Int) (d : Bool) (w : World) (h1 : decide (o < 0) = false) (h2 : decide (1023 < o) = false) (h3 : decide (r < 0) = false) (h4 : (bits .and .i64 r 7 != r) = true) : Calls Try.prog 21 #[.agg #[.int .i64 6, .int .i64 o, .int .i64 r, .int .i64 b, .int .i64 x, .int .i64 g, .int .i64 n, .bool d]] w fun e w' => e = .returned (.bool false) ∧ Fr none' w w' := by
  have f0 := (Fr.refl none' w).alloc (.cells (cbox 6 o r b x g n d) 34)
  unfold cbox at f0
  have M : ∀ w, Calls Try.prog 42 #[.int .i64 6] w fun e w1 => e = .returned (.int .i64 7) ∧ w1 = w := fun w => rmay_any 6 w
  cases d
  all_goals go_enter Try.func21, Try.ntmps21
  all_goals go_wp2_with fail
  all_goals go_quiet (first | (go_at_call 42; refine Calls.quiet_of_same (M _)))
  all_goals go_wp2_with (go_at_call 43; refine (rguard_any _ _ _).mono ?_; rintro e w1 ⟨rfl, rfl⟩)
  all_goals go_ret
  all_goals exact ⟨rfl, f0.trans (fr_drewN _ _)⟩

set_option maxRecDepth 100000 in
set_option maxHeartbeats 1600000 in
theorem rr6_2a (o r b x g n : Int) (d : Bool) (w : World) (h1 : decide (o < 0) = false) (h2 : decide (1023 < o) = false) (h3 : decide (r < 0) = false) (h4 : (bits .and .i64 r 7 != r) = false) (h7 : (b != 0) = true) : Calls Try.prog 21 #[.agg #[.int .i64 6, .int .i64 o, .int .i64 r, .int .i64 b, .int .i64 x, .int .i64 g, .int .i64 n, .bool d]] w fun e w' => e = .returned (.bool false) ∧ Fr none' w w' := by
  have f0 := (Fr.refl none' w).alloc (.cells (cbox 6 o r b x g n d) 34)
  unfold cbox at f0
  have M : ∀ w, Calls Try.prog 42 #[.int .i64 6] w fun e w1 => e = .returned (.int .i64 7) ∧ w1 = w := fun w => rmay_any 6 w
  cases d
  all_goals go_enter Try.func21, Try.ntmps21
  all_goals go_wp2_with fail
  all_goals go_quiet (first | (go_at_call 42; refine Calls.quiet_of_same (M _)))
  all_goals go_wp2_with (go_at_call 43; refine (rguard_any _ _ _).mono ?_; rintro e w1 ⟨rfl, rfl⟩)
  all_goals go_ret
  all_goals exact ⟨rfl, f0.trans (fr_drewN _ _)⟩

set_option maxRecDepth 100000 in
set_option maxHeartbeats 1600000 in
theorem rr6_4a (o r b x g n : Int) (d : Bool) (w : World) (h1 : decide (o < 0) = false) (h2 : decide (1023 < o) = false) (h3 : decide (r < 0) = false) (h4 : (bits .and .i64 r 7 != r) = false) (h5 : decide (b < 0) = false) (h6 : decide (1048576 ≤ b) = false) (h7 : (b != 0) = false) (h8 : (x == 0) = false) : Calls Try.prog 21 #[.agg #[.int .i64 6, .int .i64 o, .int .i64 r, .int .i64 b, .int .i64 x, .int .i64 g, .int .i64 n, .bool d]] w fun e w' => e = .returned (.bool false) ∧ Fr none' w w' := by
  have f0 := (Fr.refl none' w).alloc (.cells (cbox 6 o r b x g n d) 34)
  unfold cbox at f0
  have M : ∀ w, Calls Try.prog 42 #[.int .i64 6] w fun e w1 => e = .returned (.int .i64 7) ∧ w1 = w := fun w => rmay_any 6 w
  cases d
  all_goals go_enter Try.func21, Try.ntmps21
  all_goals go_wp2_with fail
  all_goals go_quiet (first | (go_at_call 42; refine Calls.quiet_of_same (M _)))
  all_goals go_wp2_with (go_at_call 43; refine (rguard_any _ _ _).mono ?_; rintro e w1 ⟨rfl, rfl⟩)
  all_goals go_ret
  all_goals exact ⟨rfl, f0.trans (fr_drewN _ _)⟩

set_option maxRecDepth 100000 in
set_option maxHeartbeats 1600000 in
theorem rr6_4b (o r b x g n : Int) (d : Bool) (w : World) (h1 : decide (o < 0) = false) (h2 : decide (1023 < o) = false) (h3 : decide (r < 0) = false) (h4 : (bits .and .i64 r 7 != r) = false) (h5 : decide (b < 0) = false) (h6 : decide (1048576 ≤ b) = false) (h7 : (b != 0) = false) (h8 : (x == 0) = true) (h9 : (g == 0) = false) : Calls Try.prog 21 #[.agg #[.int .i64 6, .int .i64 o, .int .i64 r, .int .i64 b, .int .i64 x, .int .i64 g, .int .i64 n, .bool d]] w fun e w' => e = .returned (.bool false) ∧ Fr none' w w' := by
  have f0 := (Fr.refl none' w).alloc (.cells (cbox 6 o r b x g n d) 34)
  unfold cbox at f0
  have M : ∀ w, Calls Try.prog 42 #[.int .i64 6] w fun e w1 => e = .returned (.int .i64 7) ∧ w1 = w := fun w => rmay_any 6 w
  cases d
  all_goals go_enter Try.func21, Try.ntmps21
  all_goals go_wp2_with fail
  all_goals go_quiet (first | (go_at_call 42; refine Calls.quiet_of_same (M _)))
  all_goals go_wp2_with (go_at_call 43; refine (rguard_any _ _ _).mono ?_; rintro e w1 ⟨rfl, rfl⟩)
  all_goals go_ret
  all_goals exact ⟨rfl, f0.trans (fr_drewN _ _)⟩

set_option maxRecDepth 100000 in
set_option maxHeartbeats 1600000 in
theorem rr6_4c (o r b x g n : Int) (d : Bool) (w : World) (h1 : decide (o < 0) = false) (h2 : decide (1023 < o) = false) (h3 : decide (r < 0) = false) (h4 : (bits .and .i64 r 7 != r) = false) (h5 : decide (b < 0) = false) (h6 : decide (1048576 ≤ b) = false) (h7 : (b != 0) = false) (h8 : (x == 0) = true) (h9 : (g == 0) = true) : Calls Try.prog 21 #[.agg #[.int .i64 6, .int .i64 o, .int .i64 r, .int .i64 b, .int .i64 x, .int .i64 g, .int .i64 n, .bool d]] w fun e w' => e = .returned (.bool (n == 0)) ∧ Fr none' w w' := by
  have f0 := (Fr.refl none' w).alloc (.cells (cbox 6 o r b x g n d) 34)
  unfold cbox at f0
  have M : ∀ w, Calls Try.prog 42 #[.int .i64 6] w fun e w1 => e = .returned (.int .i64 7) ∧ w1 = w := fun w => rmay_any 6 w
  cases d
  all_goals go_enter Try.func21, Try.ntmps21
  all_goals go_wp2_with fail
  all_goals go_quiet (first | (go_at_call 42; refine Calls.quiet_of_same (M _)))
  all_goals go_wp2_with (go_at_call 43; refine (rguard_any _ _ _).mono ?_; rintro e w1 ⟨rfl, rfl⟩)
  all_goals go_ret
  all_goals exact ⟨rfl, f0.trans (fr_drewN _ _)⟩

theorem rc_6 (o r b x g n : Int) (d : Bool) : rightC (K.mk 6 o r b x g n d) = ((decide (0 ≤ o) && decide (o < 1024)) && ((bits .and .i64 r 7 == r) && ((b == 0) && (true && (x == 0 && (g == 0 && n == 0)))))) := by
  rfl

theorem rright_6 (o r b x g n : Int) (d : Bool) (w : World) : Calls Try.prog 21 #[.agg #[.int .i64 6, .int .i64 o, .int .i64 r, .int .i64 b, .int .i64 x, .int .i64 g, .int .i64 n, .bool d]] w fun e w' => e = .returned (.bool (rightC (K.mk 6 o r b x g n d))) ∧ Fr none' w w' := by
  rw [rc_6]
  cases h1 : decide (o < 0)
  · cases h2 : decide (1023 < o)
    · have hO : (decide (0 ≤ o) && decide (o < 1024)) = true := by
        rw [decide_eq_false_iff_not] at h1 h2
        rw [decide_eq_true (show 0 ≤ o by omega), decide_eq_true (show o < 1024 by omega)]; rfl
      rw [hO, Bool.true_and]
      cases h3 : decide (r < 0)
      · cases h4 : (bits .and .i64 r 7 != r)
        · have hR : (bits .and .i64 r 7 == r) = true := by simpa using h4
          rw [hR, Bool.true_and]
          cases h7 : (b != 0)
          · have hb : b = 0 := by simpa using h7
            have h5 : decide (b < 0) = false := by rw [decide_eq_false_iff_not]; omega
            have h6 : decide (1048576 ≤ b) = false := by rw [decide_eq_false_iff_not]; omega
            have hB : (b == 0) = true := by simpa using hb
            rw [hB, Bool.true_and]
            clear hb
            rw [Bool.true_and]
            cases h8 : (x == 0)
            · exact rr6_4a o r b x g n d w h1 h2 h3 h4 h5 h6 h7 h8
            · cases h9 : (g == 0)
              · exact rr6_4b o r b x g n d w h1 h2 h3 h4 h5 h6 h7 h8 h9
              · exact rr6_4c o r b x g n d w h1 h2 h3 h4 h5 h6 h7 h8 h9
          · have hB : (b == 0) = false := by simpa using h7
            rw [hB, Bool.false_and]
            exact rr6_2a o r b x g n d w h1 h2 h3 h4 h7
        · have hR : (bits .and .i64 r 7 == r) = false := by simpa using h4
          rw [hR, Bool.false_and]
          exact rr6_1b o r b x g n d w h1 h2 h3 h4
      · have hR : (bits .and .i64 r 7 == r) = false := by
          have h := (and_range r 7 (by omega)).1
          rw [decide_eq_true_eq] at h3
          rw [beq_eq_false_iff_ne]
          intro e
          have e' : bits .and .i64 r ((7 : Nat) : Int) = r := e
          omega
        rw [hR, Bool.false_and]
        exact rr6_1a o r b x g n d w h1 h2 h3
    · have hO : (decide (0 ≤ o) && decide (o < 1024)) = false := by
        rw [decide_eq_true_eq] at h2
        rw [decide_eq_false (show ¬(o < 1024) by omega), Bool.and_false]
      rw [hO, Bool.false_and]
      exact rr6_0b o r b x g n d w h1 h2
  · have hO : (decide (0 ≤ o) && decide (o < 1024)) = false := by
      rw [decide_eq_true_eq] at h1
      rw [decide_eq_false (show ¬(0 ≤ o) by omega), Bool.false_and]
    rw [hO, Bool.false_and]
    exact rr6_0a o r b x g n d w h1

end Go.Proofs.Ytibdkadojoeopaa
