/-
  Contracts of package caps' bounded, Right and Encode over the translation. No statement is proved here.
-/
import Derived.Test.YtibdkadojoeopaaCapRight
namespace Go.Proofs.Ytibdkadojoeopaa
open Go.RowKit

theorem objs_range (k : Int) : 0 ≤ objs k ∧ objs k ≤ 1024 := by
  unfold objs
  split
  · omega
  split
  · omega
  split
  · omega
  split <;> omega

theorem objs_wrap (k : Int) : IntKind.i64.wrap (objs k - 1) = objs k - 1 := by
  have := objs_range k
  rw [IntKind.wrap_i64]; omega

set_option maxHeartbeats 1600000 in
theorem bounded_out (k o r b x g n : Int) (d : Bool) (w : World) (h : (decide (0 ≤ o) && decide (o ≤ objs k - 1)) = false) : Calls Try.prog 51 #[.agg #[.int .i64 k, .int .i64 o, .int .i64 r, .int .i64 b, .int .i64 x, .int .i64 g, .int .i64 n, .bool d]] w fun e w' => e = .returned (.bool false) ∧ Fr none' w w' := by
  have hw := objs_wrap k
  have f0 := (Fr.refl none' w).alloc (.cells (cbox k o r b x g n d) 34)
  unfold cbox at f0
  have ho : ∀ w', Calls Try.prog 66 #[.int .i64 k] w' fun e w1 => e = .returned (.int .i64 (objs k)) ∧ w1 = w' := fun w' => objects_any k w'
  generalize objs k = z at *
  go_enter Try.func51, Try.ntmps51
  go_wp2_with fail
  go_quiet (first | (go_at_call 66; refine Calls.quiet_of_same (ho _)) | (go_at_call 65; refine Calls.quiet_of_same (within_any _ _ _ _)))
  go_wp2
  go_ret
  exact ⟨rfl, f0.trans (fr_drewN _ _)⟩

set_option maxHeartbeats 1600000 in
theorem bounded_k2 (o r b x g n : Int) (d : Bool) (w : World) (h : (decide (0 ≤ o) && decide (o ≤ objs 2 - 1)) = true) : Calls Try.prog 51 #[.agg #[.int .i64 2, .int .i64 o, .int .i64 r, .int .i64 b, .int .i64 x, .int .i64 g, .int .i64 n, .bool d]] w fun e w' => e = .returned (.bool ((decide (1 ≤ x) && decide (x ≤ 4)) && gOk g n)) ∧ Fr none' w w' := by
  have f0 := (Fr.refl none' w).alloc (.cells (cbox 2 o r b x g n d) 34)
  have r0 := row_alloc w (cbox 2 o r b x g n d) 34
  unfold cbox at f0
  have hw := objs_wrap 2
  have ho : ∀ w', Calls Try.prog 66 #[.int .i64 2] w' fun e w1 => e = .returned (.int .i64 (objs 2)) ∧ w1 = w' := fun w' => objects_any 2 w'
  generalize objs 2 = z at *
  cases ha : (decide (1 ≤ x) && decide (x ≤ 4))
  · go_enter Try.func51, Try.ntmps51
    go_wp2_with fail
    go_quiet (first | (go_at_call 66; refine Calls.quiet_of_same (ho _)) | (go_at_call 65; refine Calls.quiet_of_same (within_any _ _ _ _)))
    go_wp2_with (first | (go_at_call 65; refine (within_any _ _ _ _).mono ?_; rintro e w1 ⟨rfl, rfl⟩; try rw [ha]) | (go_at_call 67; refine (guard_any _ _ _).mono ?_; rintro e w1 ⟨rfl, rfl⟩) | (go_at_call 68; refine (badge_any _ _).mono ?_; rintro e w1 ⟨rfl, rfl⟩))
    go_ret
    exact ⟨rfl, f0.trans (fr_drewN _ _)⟩
  · go_enter Try.func51, Try.ntmps51
    go_wp2_with fail
    go_quiet (first | (go_at_call 66; refine Calls.quiet_of_same (ho _)) | (go_at_call 65; refine Calls.quiet_of_same (within_any _ _ _ _)))
    go_wp2_with (first | (go_at_call 65; refine (within_any _ _ _ _).mono ?_; rintro e w1 ⟨rfl, rfl⟩; try rw [ha]) | (go_at_call 67; refine (guard_any _ _ _).mono ?_; rintro e w1 ⟨rfl, rfl⟩) | (go_at_call 68; refine (badge_any _ _).mono ?_; rintro e w1 ⟨rfl, rfl⟩))
    go_ret
    exact ⟨rfl, f0.trans (fr_drewN _ _)⟩

set_option maxHeartbeats 1600000 in
theorem bounded_k4 (o r b x g n : Int) (d : Bool) (w : World) (h : (decide (0 ≤ o) && decide (o ≤ objs 4 - 1)) = true) : Calls Try.prog 51 #[.agg #[.int .i64 4, .int .i64 o, .int .i64 r, .int .i64 b, .int .i64 x, .int .i64 g, .int .i64 n, .bool d]] w fun e w' => e = .returned (.bool ((bits .andNot .i64 r 11 == 0) && bOk b)) ∧ Fr none' w w' := by
  have f0 := (Fr.refl none' w).alloc (.cells (cbox 4 o r b x g n d) 34)
  have r0 := row_alloc w (cbox 4 o r b x g n d) 34
  unfold cbox at f0
  have hw := objs_wrap 4
  have ho : ∀ w', Calls Try.prog 66 #[.int .i64 4] w' fun e w1 => e = .returned (.int .i64 (objs 4)) ∧ w1 = w' := fun w' => objects_any 4 w'
  generalize objs 4 = z at *
  cases ha : (bits .andNot .i64 r 11 == 0)
  · go_enter Try.func51, Try.ntmps51
    go_wp2_with fail
    go_quiet (first | (go_at_call 66; refine Calls.quiet_of_same (ho _)) | (go_at_call 65; refine Calls.quiet_of_same (within_any _ _ _ _)))
    go_wp2_with (first | (go_at_call 65; refine (within_any _ _ _ _).mono ?_; rintro e w1 ⟨rfl, rfl⟩; try rw [ha]) | (go_at_call 67; refine (guard_any _ _ _).mono ?_; rintro e w1 ⟨rfl, rfl⟩) | (go_at_call 68; refine (badge_any _ _).mono ?_; rintro e w1 ⟨rfl, rfl⟩))
    go_ret
    exact ⟨rfl, f0.trans (fr_drewN _ _)⟩
  · go_enter Try.func51, Try.ntmps51
    go_wp2_with fail
    go_quiet (first | (go_at_call 66; refine Calls.quiet_of_same (ho _)) | (go_at_call 65; refine Calls.quiet_of_same (within_any _ _ _ _)))
    go_wp2_with (first | (go_at_call 65; refine (within_any _ _ _ _).mono ?_; rintro e w1 ⟨rfl, rfl⟩; try rw [ha]) | (go_at_call 67; refine (guard_any _ _ _).mono ?_; rintro e w1 ⟨rfl, rfl⟩) | (go_at_call 68; refine (badge_any _ _).mono ?_; rintro e w1 ⟨rfl, rfl⟩))
    go_ret
    exact ⟨rfl, f0.trans (fr_drewN _ _)⟩

set_option maxHeartbeats 1600000 in
theorem bounded_k5 (o r b x g n : Int) (d : Bool) (w : World) (h : (decide (0 ≤ o) && decide (o ≤ objs 5 - 1)) = true) : Calls Try.prog 51 #[.agg #[.int .i64 5, .int .i64 o, .int .i64 r, .int .i64 b, .int .i64 x, .int .i64 g, .int .i64 n, .bool d]] w fun e w' => e = .returned (.bool ((bits .andNot .i64 r 3 == 0) && bOk b)) ∧ Fr none' w w' := by
  have f0 := (Fr.refl none' w).alloc (.cells (cbox 5 o r b x g n d) 34)
  have r0 := row_alloc w (cbox 5 o r b x g n d) 34
  unfold cbox at f0
  have hw := objs_wrap 5
  have ho : ∀ w', Calls Try.prog 66 #[.int .i64 5] w' fun e w1 => e = .returned (.int .i64 (objs 5)) ∧ w1 = w' := fun w' => objects_any 5 w'
  generalize objs 5 = z at *
  cases ha : (bits .andNot .i64 r 3 == 0)
  · go_enter Try.func51, Try.ntmps51
    go_wp2_with fail
    go_quiet (first | (go_at_call 66; refine Calls.quiet_of_same (ho _)) | (go_at_call 65; refine Calls.quiet_of_same (within_any _ _ _ _)))
    go_wp2_with (first | (go_at_call 65; refine (within_any _ _ _ _).mono ?_; rintro e w1 ⟨rfl, rfl⟩; try rw [ha]) | (go_at_call 67; refine (guard_any _ _ _).mono ?_; rintro e w1 ⟨rfl, rfl⟩) | (go_at_call 68; refine (badge_any _ _).mono ?_; rintro e w1 ⟨rfl, rfl⟩))
    go_ret
    exact ⟨rfl, f0.trans (fr_drewN _ _)⟩
  · go_enter Try.func51, Try.ntmps51
    go_wp2_with fail
    go_quiet (first | (go_at_call 66; refine Calls.quiet_of_same (ho _)) | (go_at_call 65; refine Calls.quiet_of_same (within_any _ _ _ _)))
    go_wp2_with (first | (go_at_call 65; refine (within_any _ _ _ _).mono ?_; rintro e w1 ⟨rfl, rfl⟩; try rw [ha]) | (go_at_call 67; refine (guard_any _ _ _).mono ?_; rintro e w1 ⟨rfl, rfl⟩) | (go_at_call 68; refine (badge_any _ _).mono ?_; rintro e w1 ⟨rfl, rfl⟩))
    go_ret
    exact ⟨rfl, f0.trans (fr_drewN _ _)⟩

set_option maxHeartbeats 1600000 in
theorem bounded_k6 (o r b x g n : Int) (d : Bool) (w : World) (h : (decide (0 ≤ o) && decide (o ≤ objs 6 - 1)) = true) : Calls Try.prog 51 #[.agg #[.int .i64 6, .int .i64 o, .int .i64 r, .int .i64 b, .int .i64 x, .int .i64 g, .int .i64 n, .bool d]] w fun e w' => e = .returned (.bool (bits .andNot .i64 r 7 == 0)) ∧ Fr none' w w' := by
  have f0 := (Fr.refl none' w).alloc (.cells (cbox 6 o r b x g n d) 34)
  have r0 := row_alloc w (cbox 6 o r b x g n d) 34
  unfold cbox at f0
  have hw := objs_wrap 6
  have ho : ∀ w', Calls Try.prog 66 #[.int .i64 6] w' fun e w1 => e = .returned (.int .i64 (objs 6)) ∧ w1 = w' := fun w' => objects_any 6 w'
  generalize objs 6 = z at *
  go_enter Try.func51, Try.ntmps51
  go_wp2_with fail
  go_quiet (first | (go_at_call 66; refine Calls.quiet_of_same (ho _)) | (go_at_call 65; refine Calls.quiet_of_same (within_any _ _ _ _)))
  go_wp2_with (first | (go_at_call 65; refine (within_any _ _ _ _).mono ?_; rintro e w1 ⟨rfl, rfl⟩; try rw [ha]) | (go_at_call 67; refine (guard_any _ _ _).mono ?_; rintro e w1 ⟨rfl, rfl⟩) | (go_at_call 68; refine (badge_any _ _).mono ?_; rintro e w1 ⟨rfl, rfl⟩))
  go_ret
  exact ⟨rfl, f0.trans (fr_drewN _ _)⟩

set_option maxHeartbeats 1600000 in
theorem bounded_else (k o r b x g n : Int) (d : Bool) (w : World) (h : (decide (0 ≤ o) && decide (o ≤ objs k - 1)) = true) (t2 : (k == 2) = false) (t4 : (k == 4) = false) (t5 : (k == 5) = false) (t6 : (k == 6) = false) : Calls Try.prog 51 #[.agg #[.int .i64 k, .int .i64 o, .int .i64 r, .int .i64 b, .int .i64 x, .int .i64 g, .int .i64 n, .bool d]] w fun e w' => e = .returned (.bool true) ∧ Fr none' w w' := by
  have f0 := (Fr.refl none' w).alloc (.cells (cbox k o r b x g n d) 34)
  unfold cbox at f0
  have hw := objs_wrap k
  have ho : ∀ w', Calls Try.prog 66 #[.int .i64 k] w' fun e w1 => e = .returned (.int .i64 (objs k)) ∧ w1 = w' := fun w' => objects_any k w'
  generalize objs k = z at *
  go_enter Try.func51, Try.ntmps51
  go_wp2_with fail
  go_quiet (first | (go_at_call 66; refine Calls.quiet_of_same (ho _)) | (go_at_call 65; refine Calls.quiet_of_same (within_any _ _ _ _)))
  go_wp2
  go_ret
  exact ⟨rfl, f0.trans (fr_drewN _ _)⟩

theorem bounded_any (k o r b x g n : Int) (d : Bool) (w : World) : Calls Try.prog 51 #[.agg #[.int .i64 k, .int .i64 o, .int .i64 r, .int .i64 b, .int .i64 x, .int .i64 g, .int .i64 n, .bool d]] w fun e w' => e = .returned (.bool (bndC (K.mk k o r b x g n d))) ∧ Fr none' w w' := by
  unfold bndC
  dsimp only
  cases h : (decide (0 ≤ o) && decide (o ≤ objs k - 1))
  · exact bounded_out k o r b x g n d w h
  · rw [Bool.true_and]
    rcases kind_cases k with rfl | rfl | rfl | rfl | rfl | ⟨h1, h2, h4, h5, h6⟩
    · exact bounded_else 1 o r b x g n d w h rfl rfl rfl rfl
    · exact bounded_k2 o r b x g n d w h
    · exact bounded_k4 o r b x g n d w h
    · exact bounded_k5 o r b x g n d w h
    · exact bounded_k6 o r b x g n d w h
    · rw [if_neg h2, if_neg h4, if_neg h5, if_neg h6]
      exact bounded_else k o r b x g n d w h (by simpa using h2) (by simpa using h4) (by simpa using h5) (by simpa using h6)

set_option maxHeartbeats 1600000 in
theorem right_no (k o r b x g n : Int) (d : Bool) (w : World) (h : eqK (K.mk k o r b x g n d) (onlyC (K.mk k o r b x g n d)) = false) : Calls Try.prog 38 #[.agg #[.int .i64 k, .int .i64 o, .int .i64 r, .int .i64 b, .int .i64 x, .int .i64 g, .int .i64 n, .bool d]] w fun e w' => e = .returned (.bool false) ∧ Fr none' w w' := by
  have f0 := (Fr.refl none' w).alloc (.cells (cbox k o r b x g n d) 34)
  have r0 := row_alloc w (cbox k o r b x g n d) 34
  have C := only_any k o r b x g n d
  generalize onlyC (K.mk k o r b x g n d) = q at *
  obtain ⟨k', o', r', b', x', g', n', d'⟩ := q
  dsimp only at C
  have heq := fun w => eq_cap k o r b x g n k' o' r' b' x' g' n' d d' w
  rw [h] at heq
  obtain ⟨c0, c1, c2, c3, c4, c5, c6, c7⟩ := cbox_cells r0
  unfold cbox at f0 r0 c0 c1 c2 c3 c4 c5 c6 c7
  go_enter Try.func38, Try.ntmps38
  go_wp2_with fail
  go_region_with (first
    | (go_at_call 50; refine (C _).mono ?_; rintro e w1 ⟨rfl, f1⟩; replace f1 := f1.undrew; replace r0 := r0.keep f1 (fun h => h); obtain ⟨d0, d1, d2, d3, d4, d5, d6, d7⟩ := cbox_cells r0; replace f0 := f0.trans f1; clear f1))
  all_goals go_wp2_with fail
  all_goals go_ret
  all_goals exact ⟨rfl, f0⟩

set_option maxHeartbeats 1600000 in
theorem right_yes (k o r b x g n : Int) (d : Bool) (w : World) (h : eqK (K.mk k o r b x g n d) (onlyC (K.mk k o r b x g n d)) = true) : Calls Try.prog 38 #[.agg #[.int .i64 k, .int .i64 o, .int .i64 r, .int .i64 b, .int .i64 x, .int .i64 g, .int .i64 n, .bool d]] w fun e w' => e = .returned (.bool (bndC (K.mk k o r b x g n d))) ∧ Fr none' w w' := by
  have f0 := (Fr.refl none' w).alloc (.cells (cbox k o r b x g n d) 34)
  have r0 := row_alloc w (cbox k o r b x g n d) 34
  have C := only_any k o r b x g n d
  have B := bounded_any k o r b x g n d
  generalize onlyC (K.mk k o r b x g n d) = q at *
  generalize bndC (K.mk k o r b x g n d) = z at *
  obtain ⟨k', o', r', b', x', g', n', d'⟩ := q
  dsimp only at C
  have heq := fun w => eq_cap k o r b x g n k' o' r' b' x' g' n' d d' w
  rw [h] at heq
  obtain ⟨c0, c1, c2, c3, c4, c5, c6, c7⟩ := cbox_cells r0
  unfold cbox at f0 r0 c0 c1 c2 c3 c4 c5 c6 c7
  go_enter Try.func38, Try.ntmps38
  go_wp2_with fail
  go_region_held3 (fun w' => w'.cell? ⟨w.heap.size, 0, none⟩ = some (.int .i64 k) ∧ w'.cell? ⟨w.heap.size, 1, none⟩ = some (.int .i64 o) ∧ w'.cell? ⟨w.heap.size, 2, none⟩ = some (.int .i64 r) ∧ w'.cell? ⟨w.heap.size, 3, none⟩ = some (.int .i64 b) ∧ w'.cell? ⟨w.heap.size, 4, none⟩ = some (.int .i64 x) ∧ w'.cell? ⟨w.heap.size, 5, none⟩ = some (.int .i64 g) ∧ w'.cell? ⟨w.heap.size, 6, none⟩ = some (.int .i64 n) ∧ w'.cell? ⟨w.heap.size, 7, none⟩ = some (.bool d)) (first | with_reducible exact ⟨c0, c1, c2, c3, c4, c5, c6, c7⟩ | with_reducible exact ⟨d0, d1, d2, d3, d4, d5, d6, d7⟩ | go_keep) (first
    | (go_at_call 50; refine (C _).mono ?_; rintro e w1 ⟨rfl, f1⟩; replace f1 := f1.undrew; replace r0 := r0.keep f1 (fun h => h); obtain ⟨d0, d1, d2, d3, d4, d5, d6, d7⟩ := cbox_cells r0; replace f0 := f0.trans f1; clear f1)
    | (go_at_call 51; refine (B _).mono ?_; rintro e w1 ⟨rfl, f1⟩; replace r0 := r0.keep f1 (fun h => h); obtain ⟨d0, d1, d2, d3, d4, d5, d6, d7⟩ := cbox_cells r0; replace f0 := f0.trans f1; clear f1))
  all_goals go_wp2_with fail
  all_goals go_ret
  all_goals exact ⟨rfl, f0⟩

theorem right_any (k o r b x g n : Int) (d : Bool) (w : World) (hr : I64 r) : Calls Try.prog 38 #[.agg #[.int .i64 k, .int .i64 o, .int .i64 r, .int .i64 b, .int .i64 x, .int .i64 g, .int .i64 n, .bool d]] w fun e w' => e = .returned (.bool (rightC (K.mk k o r b x g n d))) ∧ Fr none' w w' := by
  rw [← right_only (c := (K.mk k o r b x g n d)) hr]
  cases h : eqK (K.mk k o r b x g n d) (onlyC (K.mk k o r b x g n d))
  · exact right_no k o r b x g n d w h
  · rw [Bool.true_and]; exact right_yes k o r b x g n d w h

end Go.Proofs.Ytibdkadojoeopaa
