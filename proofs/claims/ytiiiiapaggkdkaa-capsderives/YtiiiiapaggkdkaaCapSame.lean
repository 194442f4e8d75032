/-
  Contracts of package caps' object and Same over the translation. No statement is proved here.
-/
import Derived.Test.YtiiiiapaggkdkaaCapMint2
namespace Go.Proofs.Ytiiiiapaggkdkaa
open Go.RowKit

set_option maxHeartbeats 1600000 in
theorem object_any (k o r b x g n : Int) (d : Bool) (w : World) : Calls Try.prog 32 #[.agg #[.int .i64 k, .int .i64 o, .int .i64 r, .int .i64 b, .int .i64 x, .int .i64 g, .int .i64 n, .bool d]] w fun e w' => e = .returned (.agg #[.int .i64 k, .int .i64 o, .int .i64 0, .int .i64 0, .int .i64 0, .int .i64 0, .int .i64 0, .bool false]) ∧ Fr none' w w' := by
  go_enter Try.func32, Try.ntmps32
  go_wp2
  refine bodyPost_ret (ret_cap rfl rfl (row_alloc1 _ _ _ _) rfl) rfl ?_
  exact ⟨rfl, ((Fr.refl _ _).alloc _).alloc _⟩

theorem same_obj (k o k' o' : Int) : eqK (K.mk k o 0 0 0 0 0 false) (K.mk k' o' 0 0 0 0 0 false) = (k == k' && o == o') := by
  simp [eqK]

set_option maxHeartbeats 1600000 in
theorem same_null (o r b x g n k' o' r' b' x' g' n' : Int) (d d' : Bool) (w : World) : Calls Try.prog 22 #[.agg #[.int .i64 0, .int .i64 o, .int .i64 r, .int .i64 b, .int .i64 x, .int .i64 g, .int .i64 n, .bool d], .agg #[.int .i64 k', .int .i64 o', .int .i64 r', .int .i64 b', .int .i64 x', .int .i64 g', .int .i64 n', .bool d']] w fun e w' => e = .returned (.bool false) ∧ Fr none' w w' := by
  have f0 := ((Fr.refl none' w).alloc (.cells (cbox 0 o r b x g n d) 23)).alloc (.cells (cbox k' o' r' b' x' g' n' d') 23)
  unfold cbox at f0
  go_enter Try.func22, Try.ntmps22
  go_wp2_with fail
  go_quiet (fail)
  go_wp2
  go_ret
  exact ⟨rfl, f0.trans (fr_drewN _ _)⟩

set_option maxHeartbeats 1600000 in
theorem same_some (k o r b x g n : Int) (d : Bool) (k' o' r' b' x' g' n' : Int) (d' : Bool) (w : World) (h : (k != 0) = true) : Calls Try.prog 22 #[.agg #[.int .i64 k, .int .i64 o, .int .i64 r, .int .i64 b, .int .i64 x, .int .i64 g, .int .i64 n, .bool d], .agg #[.int .i64 k', .int .i64 o', .int .i64 r', .int .i64 b', .int .i64 x', .int .i64 g', .int .i64 n', .bool d']] w fun e w' => e = .returned (.bool (k == k' && o == o')) ∧ Fr none' w w' := by
  have f0 := ((Fr.refl none' w).alloc (.cells (cbox k o r b x g n d) 23)).alloc (.cells (cbox k' o' r' b' x' g' n' d') 23)
  have r0 := (row_alloc w (cbox k o r b x g n d) 23).alloc (.cells (cbox k' o' r' b' x' g' n' d') 23)
  have q0 := row_alloc1 w (.cells (cbox k o r b x g n d) 23) (cbox k' o' r' b' x' g' n' d') 23
  have heq := fun w => eq_cap k o 0 0 0 0 0 k' o' 0 0 0 0 0 false false w
  rw [same_obj] at heq
  have O1 := object_any k o r b x g n d
  have O2 := object_any k' o' r' b' x' g' n' d'
  generalize (k == k' && o == o') = z at *
  obtain ⟨c0, c1, c2, c3, c4, c5, c6, c7⟩ := cbox_cells r0
  obtain ⟨d0, d1, d2, d3, d4, d5, d6, d7⟩ := cbox_cells q0
  unfold cbox at f0 r0 q0 c0 c1 c2 c3 c4 c5 c6 c7 d0 d1 d2 d3 d4 d5 d6 d7
  go_enter Try.func22, Try.ntmps22
  go_wp2_with fail
  go_region_held3 (fun w' => w'.cell? ⟨w.heap.size, 0, none⟩ = some (.int .i64 k) ∧ w'.cell? ⟨w.heap.size, 1, none⟩ = some (.int .i64 o) ∧ w'.cell? ⟨w.heap.size, 2, none⟩ = some (.int .i64 r) ∧ w'.cell? ⟨w.heap.size, 3, none⟩ = some (.int .i64 b) ∧ w'.cell? ⟨w.heap.size, 4, none⟩ = some (.int .i64 x) ∧ w'.cell? ⟨w.heap.size, 5, none⟩ = some (.int .i64 g) ∧ w'.cell? ⟨w.heap.size, 6, none⟩ = some (.int .i64 n) ∧ w'.cell? ⟨w.heap.size, 7, none⟩ = some (.bool d) ∧ w'.cell? ⟨w.heap.size + 1, 0, none⟩ = some (.int .i64 k') ∧ w'.cell? ⟨w.heap.size + 1, 1, none⟩ = some (.int .i64 o') ∧ w'.cell? ⟨w.heap.size + 1, 2, none⟩ = some (.int .i64 r') ∧ w'.cell? ⟨w.heap.size + 1, 3, none⟩ = some (.int .i64 b') ∧ w'.cell? ⟨w.heap.size + 1, 4, none⟩ = some (.int .i64 x') ∧ w'.cell? ⟨w.heap.size + 1, 5, none⟩ = some (.int .i64 g') ∧ w'.cell? ⟨w.heap.size + 1, 6, none⟩ = some (.int .i64 n') ∧ w'.cell? ⟨w.heap.size + 1, 7, none⟩ = some (.bool d')) (first | with_reducible exact ⟨c0, c1, c2, c3, c4, c5, c6, c7, d0, d1, d2, d3, d4, d5, d6, d7⟩ | with_reducible exact ⟨a0, a1, a2, a3, a4, a5, a6, a7, e0, e1, e2, e3, e4, e5, e6, e7⟩ | go_keep) (first
    | (go_at_call 32; refine (O1 _).mono ?_; rintro e w1 ⟨rfl, f1⟩; replace f1 := f1.undrew; replace r0 := r0.keep f1 (fun h => h); replace q0 := q0.keep f1 (fun h => h); obtain ⟨a0, a1, a2, a3, a4, a5, a6, a7⟩ := cbox_cells r0; obtain ⟨e0, e1, e2, e3, e4, e5, e6, e7⟩ := cbox_cells q0; replace f0 := f0.trans f1; clear f1)
    | (go_at_call 32; refine (O1 _).mono ?_; rintro e w1 ⟨rfl, f1⟩; replace r0 := r0.keep f1 (fun h => h); replace q0 := q0.keep f1 (fun h => h); obtain ⟨a0, a1, a2, a3, a4, a5, a6, a7⟩ := cbox_cells r0; obtain ⟨e0, e1, e2, e3, e4, e5, e6, e7⟩ := cbox_cells q0; replace f0 := f0.trans f1; clear f1)
    | (go_at_call 32; refine (O2 _).mono ?_; rintro e w1 ⟨rfl, f1⟩; replace f1 := f1.undrew; replace r0 := r0.keep f1 (fun h => h); replace q0 := q0.keep f1 (fun h => h); obtain ⟨a0, a1, a2, a3, a4, a5, a6, a7⟩ := cbox_cells r0; obtain ⟨e0, e1, e2, e3, e4, e5, e6, e7⟩ := cbox_cells q0; replace f0 := f0.trans f1; clear f1)
    | (go_at_call 32; refine (O2 _).mono ?_; rintro e w1 ⟨rfl, f1⟩; replace r0 := r0.keep f1 (fun h => h); replace q0 := q0.keep f1 (fun h => h); obtain ⟨a0, a1, a2, a3, a4, a5, a6, a7⟩ := cbox_cells r0; obtain ⟨e0, e1, e2, e3, e4, e5, e6, e7⟩ := cbox_cells q0; replace f0 := f0.trans f1; clear f1))
  all_goals go_wp2_with fail
  all_goals go_ret
  all_goals exact ⟨rfl, f0⟩

theorem same_any (k o r b x g n : Int) (d : Bool) (k' o' r' b' x' g' n' : Int) (d' : Bool) (w : World) : Calls Try.prog 22 #[.agg #[.int .i64 k, .int .i64 o, .int .i64 r, .int .i64 b, .int .i64 x, .int .i64 g, .int .i64 n, .bool d], .agg #[.int .i64 k', .int .i64 o', .int .i64 r', .int .i64 b', .int .i64 x', .int .i64 g', .int .i64 n', .bool d']] w fun e w' => e = .returned (.bool (sameC (K.mk k o r b x g n d) (K.mk k' o' r' b' x' g' n' d'))) ∧ Fr none' w w' := by
  unfold sameC
  dsimp only
  cases h : (k != 0)
  · have h' : k = 0 := by simpa using h
    subst h'
    exact same_null o r b x g n k' o' r' b' x' g' n' d d' w
  · rw [Bool.true_and]
    exact same_some k o r b x g n d k' o' r' b' x' g' n' d' w h

end Go.Proofs.Ytiiiiapaggkdkaa
