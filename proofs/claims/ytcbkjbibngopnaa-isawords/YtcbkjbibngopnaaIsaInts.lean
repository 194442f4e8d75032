/-
  Which registers may be read, and the contracts of the law's own ints and awake over the translation. No statement is proved here.
-/
import Derived.Test.YtcbkjbibngopnaaIsaRefR
namespace Go.Proofs.Ytcbkjbibngopnaa
open Go.RowKit

theorem reads_cases (o a b c i : Int) : readsI o a b c i = [] ∨ (∃ x, 0 ≤ x ∧ x ≤ 15 ∧ readsI o a b c i = [x]) ∨ ∃ x y, 0 ≤ x ∧ x < y ∧ y ≤ 15 ∧ readsI o a b c i = [x, y] := by
  unfold readsI
  cases h : rightI o a b c i
  · exact Or.inl rfl
  · obtain ⟨_, ha, hb, hc, _, _⟩ := right_bounds h
    simp only [if_true]
    have two : ∀ x y : Int, 0 ≤ x ∧ x ≤ 15 → 0 ≤ y ∧ y ≤ 15 → sd [x, y] = [] ∨ (∃ z, 0 ≤ z ∧ z ≤ 15 ∧ sd [x, y] = [z]) ∨ ∃ z u, 0 ≤ z ∧ z < u ∧ u ≤ 15 ∧ sd [x, y] = [z, u] := by
      intro x y hx hy
      by_cases e : x = y
      · exact Or.inr (Or.inl ⟨x, hx.1, hx.2, by simp [sd, e]⟩)
      · by_cases e' : x < y
        · exact Or.inr (Or.inr ⟨x, y, hx.1, e', hy.2, by simp [sd, e, e']⟩)
        · exact Or.inr (Or.inr ⟨y, x, hy.1, by omega, hx.2, by simp [sd, e, e']⟩)
    have hk := (right_parts h).1
    have hr := kf_range hk
    rcases op_cases hr with rfl | rfl | rfl | rfl | rfl | rfl | rfl | rfl | rfl | rfl | rfl | rfl | rfl | rfl | rfl | rfl | rfl | rfl | rfl | rfl | rfl | rfl | rfl | rfl | rfl
    · exact Or.inl rfl
    · exact two b c hb hc
    · exact two b c hb hc
    · exact two b c hb hc
    · exact two b c hb hc
    · exact two b c hb hc
    · exact Or.inr (Or.inl ⟨b, hb.1, hb.2, rfl⟩)
    · exact two a b ha hb
    · exact Or.inr (Or.inl ⟨b, hb.1, hb.2, rfl⟩)
    · exact two a b ha hb
    · exact two a b ha hb
    · exact two a b ha hb
    · exact two a b ha hb
    · exact Or.inl rfl
    · exact Or.inl rfl
    · exact Or.inr (Or.inl ⟨b, hb.1, hb.2, rfl⟩)
    · exact Or.inl rfl
    · exact Or.inl rfl
    · exact Or.inl rfl
    · exact Or.inr (Or.inl ⟨b, hb.1, hb.2, rfl⟩)
    · exact Or.inl rfl
    · exact Or.inl rfl
    · exact Or.inr (Or.inl ⟨b, hb.1, hb.2, rfl⟩)
    · exact Or.inl rfl
    · exact Or.inl rfl

set_option maxHeartbeats 400000 in
theorem ints_nil (w : World) : Calls Try.prog 21 #[.slice none 0 0, .slice none 0 0] w fun e w' => e = .returned (.bool true) ∧ Fr none' w w' := by
  go_enter Try.func21, Try.ntmps21
  go_wp2_with fail
  refine wp_loop_rounds 1 ?_
  rw [rounds_succ]; go_wp2_with fail
  go_ret
  exact ⟨rfl, Fr.refl _ _⟩
set_option maxHeartbeats 1600000 in
theorem ints_one (w : World) (g g' cap cap' : Nat) (x : Int) (c0 : w.cell? ⟨g, 0, none⟩ = some (.int .i64 x)) (d0 : w.cell? ⟨g', 0, none⟩ = some (.int .i64 x)) : Calls Try.prog 21 #[.slice (some ⟨g, 0, none⟩) 1 cap, .slice (some ⟨g', 0, none⟩) 1 cap'] w fun e w' => e = .returned (.bool true) ∧ Fr none' w w' := by
  have t1 : (x != x) = false := by simp
  go_enter Try.func21, Try.ntmps21
  go_wp2_with fail
  refine wp_loop_rounds 2 ?_
  rw [rounds_succ]; go_wp2_with fail
  go_quiet (fail)
  go_wp2_with fail
  rw [rounds_succ]; go_wp2_with fail
  go_ret
  exact ⟨rfl, (Fr.refl _ _).drewN _⟩
set_option maxHeartbeats 1600000 in
theorem ints_two (w : World) (g g' cap cap' : Nat) (x y : Int) (c0 : w.cell? ⟨g, 0, none⟩ = some (.int .i64 x)) (d0 : w.cell? ⟨g', 0, none⟩ = some (.int .i64 x)) (c1 : w.cell? ⟨g, 1, none⟩ = some (.int .i64 y)) (d1 : w.cell? ⟨g', 1, none⟩ = some (.int .i64 y)) : Calls Try.prog 21 #[.slice (some ⟨g, 0, none⟩) 2 cap, .slice (some ⟨g', 0, none⟩) 2 cap'] w fun e w' => e = .returned (.bool true) ∧ Fr none' w w' := by
  have t1 : (x != x) = false := by simp
  have t2 : (y != y) = false := by simp
  go_enter Try.func21, Try.ntmps21
  go_wp2_with fail
  refine wp_loop_rounds 3 ?_
  rw [rounds_succ]; go_wp2_with fail
  go_quiet (fail)
  go_wp2_with fail
  rw [rounds_succ]; go_wp2_with fail
  go_quiet (fail)
  go_wp2_with fail
  rw [rounds_succ]; go_wp2_with fail
  go_ret
  exact ⟨rfl, (Fr.refl _ _).drewN _⟩

theorem ints_any (w : World) (B B' : Nat) (v v' : Value) (o a b c i : Int) (h : OwnI w B v (readsI o a b c i)) (h' : OwnI w B' v' (readsI o a b c i)) : Calls Try.prog 21 #[v, v'] w fun e w' => e = .returned (.bool true) ∧ Fr none' w w' := by
  rcases reads_cases o a b c i with e | ⟨x, _, _, e⟩ | ⟨x, y, _, _, _, e⟩
  · rw [e] at h h'
    obtain rfl := h.2 rfl
    obtain rfl := h'.2 rfl
    exact ints_nil w
  · rw [e] at h h'
    obtain ⟨g, cap, cur, rfl, _, r, _, _, _, hj⟩ := h.row (by simp)
    obtain ⟨g', cap', cur', rfl, _, r', _, _, _, hj'⟩ := h'.row (by simp)
    exact ints_one w g g' cap cap' x ((r.cell 0).trans (hj 0 x rfl)) ((r'.cell 0).trans (hj' 0 x rfl))
  · rw [e] at h h'
    obtain ⟨g, cap, cur, rfl, _, r, _, _, _, hj⟩ := h.row (by simp)
    obtain ⟨g', cap', cur', rfl, _, r', _, _, _, hj'⟩ := h'.row (by simp)
    exact ints_two w g g' cap cap' x y ((r.cell 0).trans (hj 0 x rfl)) ((r'.cell 0).trans (hj' 0 x rfl)) ((r.cell 1).trans (hj 1 y rfl)) ((r'.cell 1).trans (hj' 1 y rfl))

set_option maxRecDepth 100000 in
set_option maxHeartbeats 3200000 in
theorem awake_any (w : World) : Calls Try.prog 8 #[] w fun e w' => e = .returned (.bool true) ∧ Fr none' w w' := by
  have K1 := fun w => enc_any 1 3 0 0 500 w
  rw [show encW 1 3 0 0 500 = 19923444 by decide +kernel, show encE 1 3 0 0 500 = 0 by decide +kernel] at K1
  have K2 := fun w => dec_any 0 w (by omega)
  rw [show dE ((0 : Nat) : Int) = 50 by decide +kernel] at K2
  have K3 := fun w => dec_any 34734096 w (by omega)
  rw [show dE ((34734096 : Nat) : Int) = 50 by decide +kernel] at K3
  have K4 := fun w => dec_any 419430400 w (by omega)
  rw [show dE ((419430400 : Nat) : Int) = 0 by decide +kernel, show dOp ((419430400 : Nat) : Int) = 25 by decide +kernel, show dA ((419430400 : Nat) : Int) = 0 by decide +kernel, show dB ((419430400 : Nat) : Int) = 0 by decide +kernel, show dC ((419430400 : Nat) : Int) = 0 by decide +kernel, show dI ((419430400 : Nat) : Int) = 0 by decide +kernel] at K4
  have K5 := fun w => reads_any 2 1 2 2 0 w
  rw [show readsI 2 1 2 2 0 = [2] by decide +kernel] at K5
  have K6 := fun w => writes_any 8 1 2 0 8 w
  rw [show writesI 8 1 2 0 8 = -1 by decide +kernel] at K6
  have K7 := fun w => kind_any 20 w
  rw [show fs (kf 20) = ⟨#[98, 105]⟩ from rfl] at K7
  generalize dOp ((0 : Nat) : Int) = z1 at K2
  generalize dA ((0 : Nat) : Int) = z2 at K2
  generalize dB ((0 : Nat) : Int) = z3 at K2
  generalize dC ((0 : Nat) : Int) = z4 at K2
  generalize dI ((0 : Nat) : Int) = z5 at K2
  generalize dOp ((34734096 : Nat) : Int) = y1 at K3
  generalize dA ((34734096 : Nat) : Int) = y2 at K3
  generalize dB ((34734096 : Nat) : Int) = y3 at K3
  generalize dC ((34734096 : Nat) : Int) = y4 at K3
  generalize dI ((34734096 : Nat) : Int) = y5 at K3
  have f0 := Fr.refl none' w
  go_enter Try.func8, Try.ntmps8
  go_wp2_with fail
  refine (K1 _).mono ?_
  rintro e w1 ⟨rfl, f1⟩
  replace f0 := f0.trans f1
  clear K1 f1
  go_wp2_with fail
  refine (K2 _).mono ?_
  rintro e w2 ⟨rfl, f1⟩
  replace f0 := (f0.trans f1).alloc (.cells (ibox z1 z2 z3 z4 z5) 23)
  unfold ibox at f0
  clear K2 f1
  go_wp2_with fail
  refine (K3 _).mono ?_
  rintro e w3 ⟨rfl, f1⟩
  replace f0 := (f0.trans f1).alloc (.cells (ibox y1 y2 y3 y4 y5) 23)
  unfold ibox at f0
  clear K3 f1
  go_wp2_with fail
  refine (K4 _).mono ?_
  rintro e w4 ⟨rfl, f1⟩
  have r0 := row_alloc w4 (ibox 25 0 0 0 0) 23
  replace f0 := (f0.trans f1).alloc (.cells (ibox 25 0 0 0 0) 23)
  unfold ibox at f0
  clear K4 f1
  go_wp2_with fail
  refine (K5 _).mono ?_
  rintro e w5 ⟨v, rfl, f1, o1⟩
  replace r0 := r0.keep f1 (fun h => h)
  replace f0 := f0.trans f1
  clear K5 f1
  go_wp2_with fail
  refine (K6 _).mono ?_
  rintro e w6 ⟨rfl, f1⟩
  replace r0 := r0.keep f1 (fun h => h)
  replace o1 := o1.keep0 f1
  replace f0 := f0.trans f1
  clear K6 f1
  go_wp2_with fail
  refine (K7 _).mono ?_
  rintro e w7 ⟨rfl, f1⟩
  replace r0 := r0.keep f1 (fun h => h)
  replace o1 := o1.keep0 f1
  replace f0 := f0.trans f1
  clear K7 f1
  obtain ⟨c0, c1, c2, c3, c4⟩ := ibox_cells r0
  obtain ⟨g, cap, cur, rfl, _, r, _, _, _, hj⟩ := o1.row (by simp)
  have d0 : w7.cell? ⟨g, 0, none⟩ = some (.int .i64 2) := (r.cell 0).trans (hj 0 2 rfl)
  clear o1 r hj r0
  go_wp2_with fail
  go_ret
  exact ⟨rfl, f0⟩

end Go.Proofs.Ytcbkjbibngopnaa
