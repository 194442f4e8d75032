/-
  Contracts of cmp.Compare, cmp.Or and package vgic's order over the translation; and what it is to be sorted by it. No statement is proved here.
-/
import Derived.Test.YthkieoedidpkaaaVgRow
import Derived.Test.YthkieoedidpkaaaShelf
namespace Go.Proofs.Ythkieoedidpkaaa
open Go.RowKit Go.Sort Go.Shelf Go.Lib

def cmpI (x y : Int) : Int := if x < y then -1 else if y < x then 1 else 0

set_option maxHeartbeats 400000 in
theorem isnan_any (x : Int) (w : World) : Calls Try.prog 78 #[.int .i64 x] w fun e w' => e = .returned (.bool false) ∧ w' = w := by
  have t : (x != x) = false := by simp
  go_enter Try.func78, Try.ntmps78
  go_wp2
  go_ret
  first | exact ⟨rfl, rfl⟩ | exact ⟨by rw [t], rfl⟩

set_option maxHeartbeats 1000000 in
theorem compare_any (x y : Int) (w : World) : Calls Try.prog 67 #[.int .i64 x, .int .i64 y] w fun e w' => e = .returned (.int .i64 (cmpI x y)) ∧ w' = w := by
  unfold cmpI
  by_cases h1 : x < y
  · rw [if_pos h1]
    have u1 : decide (x < y) = true := decide_eq_true h1
    go_enter Try.func67, Try.ntmps67
    go_wp2_with (first | (go_at_call 78; refine (isnan_any _ _).mono ?_; rintro e w1 ⟨rfl, rfl⟩))
    go_ret
    exact ⟨rfl, rfl⟩
  · rw [if_neg h1]
    have u1 : decide (x < y) = false := decide_eq_false h1
    by_cases h2 : y < x
    · rw [if_pos h2]
      have u2 : decide (y < x) = true := decide_eq_true h2
      go_enter Try.func67, Try.ntmps67
      go_wp2_with (first | (go_at_call 78; refine (isnan_any _ _).mono ?_; rintro e w1 ⟨rfl, rfl⟩))
      go_ret
      exact ⟨rfl, rfl⟩
    · rw [if_neg h2]
      have u2 : decide (y < x) = false := decide_eq_false h2
      go_enter Try.func67, Try.ntmps67
      go_wp2_with (first | (go_at_call 78; refine (isnan_any _ _).mono ?_; rintro e w1 ⟨rfl, rfl⟩))
      go_ret
      exact ⟨rfl, rfl⟩

def orI (a b : Int) : Int := if a ≠ 0 then a else b

set_option maxHeartbeats 1000000 in
theorem or_any (g : Nat) (a b : Int) (w : World) (r : Row w g #[.int .i64 a, .int .i64 b] 3) : Calls Try.prog 66 #[.slice (some ⟨g, 0, none⟩) 2 2] w fun e w' => e = .returned (.int .i64 (orI a b)) ∧ w' = w := by
  unfold orI
  have c0 := r.cell 0
  have c1 := r.cell 1
  clear r
  by_cases ha : a = 0
  · subst ha
    rw [if_neg (by simp)]
    by_cases hb : b = 0
    · subst hb
      go_enter Try.func66, Try.ntmps66
      go_wp2_with fail
      refine wp_loop_rounds 3 ?_
      rw [rounds_succ]
      go_wp2_with fail
      rw [rounds_succ]
      go_wp2_with fail
      rw [rounds_succ]
      go_wp2_with fail
      go_ret
      exact ⟨rfl, rfl⟩
    · have u : (b != 0) = true := by simpa using hb
      go_enter Try.func66, Try.ntmps66
      go_wp2_with fail
      refine wp_loop_rounds 2 ?_
      rw [rounds_succ]
      go_wp2_with fail
      rw [rounds_succ]
      go_wp2_with fail
      go_ret
      exact ⟨rfl, rfl⟩
  · rw [if_pos ha]
    have u : (a != 0) = true := by simpa using ha
    go_enter Try.func66, Try.ntmps66
    go_wp2_with fail
    refine wp_loop_rounds 1 ?_
    rw [rounds_succ]
    go_wp2_with fail
    go_ret
    exact ⟨rfl, rfl⟩

def encL (x : Lr) : List Value := [.int .i64 x.id, .int .i64 x.p, .bool x.lv, .bool x.pe, .bool x.ac]
def cfL (x y : Lr) : Int := if x.ac ≠ y.ac then (if x.ac then -1 else 1) else orI (cmpI x.p y.p) (cmpI x.id y.id)

theorem lt_cf (x y : Lr) : ltOf cfL x y = true ↔ ltr x y := by
  unfold ltOf cfL ltr orI cmpI
  cases hx : x.ac <;> cases hy : y.ac <;> simp
  all_goals
    by_cases h1 : x.p < y.p
    · simp [h1]
    · by_cases h2 : y.p < x.p
      · simp [h1, h2]; omega
      · by_cases h3 : x.id < y.id
        · simp [h1, h2, h3]; omega
        · by_cases h4 : y.id < x.id
          · simp [h1, h2, h3, h4]
          · simp [h1, h2, h3, h4]

theorem lt_cf_not (x y : Lr) : ltOf cfL x y = false ↔ ¬ ltr x y := by
  rw [← lt_cf]
  simp

theorem swo_cf : SWO (ltOf cfL) where
  irrefl x := (lt_cf_not x x).mpr (ltr_irr x)
  trans x y z h1 h2 := by
    rw [lt_cf] at *
    unfold ltr at *
    cases hx : x.ac <;> cases hy : y.ac <;> cases hz : z.ac <;> simp [hx, hy, hz] at * <;> omega
  ntrans x y z h1 h2 := by
    rw [lt_cf_not] at *
    unfold ltr at *
    cases hx : x.ac <;> cases hy : y.ac <;> cases hz : z.ac <;> simp [hx, hy, hz] at * <;> omega

/-- Draws and new blocks alone. -/
def Grows (W w' : World) : Prop := ∃ q os', w' = grow (W.drewN q) os'
theorem Grows.refl (W : World) : Grows W W := ⟨0, #[], by rw [grow_empty]; rfl⟩
theorem Grows.alloc {W w' : World} (h : Grows W w') (o : Obj) : Grows W (w'.alloc o) := by
  obtain ⟨q, os, rfl⟩ := h
  exact ⟨q, os ++ #[o], by rw [alloc_eq_grow, grow_grow]⟩
theorem Grows.drew {W w' : World} (h : Grows W w') : Grows W w'.drew := by
  obtain ⟨q, os, rfl⟩ := h
  exact ⟨q + 1, os, rfl⟩
theorem Grows.drewN {W w' : World} (h : Grows W w') (n : Nat) : Grows W (w'.drewN n) := by
  obtain ⟨q, os, rfl⟩ := h
  refine ⟨q + n, os, ?_⟩
  simp only [World.drewN, grow, Nat.add_assoc]

end Go.Proofs.Ythkieoedidpkaaa
