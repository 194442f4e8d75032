/-
  Contracts of the document's own answer (package viceroyref11): may, guard, Mask, Derive, Same. No statement is proved here.
-/
import Derived.Test.YtiiiiapaggkdkaaCapMint2
namespace Go.Proofs.Ytiiiiapaggkdkaa
open Go.RowKit

theorem rmay_any (k : Int) (w : World) : Calls Try.prog 26 #[.int .i64 k] w fun e w' => e = .returned (.int .i64 (may k)) ∧ w' = w := by
  by_cases hk : k = 4 ∨ k = 5 ∨ k = 6
  · rcases hk with rfl | rfl | rfl
    all_goals
      go_enter Try.func26, Try.ntmps26
      go_wp2
      go_ret
      exact ⟨rfl, rfl⟩
  · have t4 : (k == 4) = false := by rw [beq_eq_false_iff_ne]; omega
    have t5 : (k == 5) = false := by rw [beq_eq_false_iff_ne]; omega
    have t6 : (k == 6) = false := by rw [beq_eq_false_iff_ne]; omega
    have e : may k = 0 := by unfold may; rw [if_neg (by omega), if_neg (by omega), if_neg (by omega)]
    rw [e]
    clear e hk
    go_enter Try.func26, Try.ntmps26
    go_wp2
    go_ret
    exact ⟨rfl, rfl⟩

theorem pow_wrap1 : ∀ m : Fin 17, wrap64 (2 ^ m.val) = (2 : Int) ^ m.val := by decide +kernel

theorem gOk_lt (g : Int) (m : Nat) (h : (m : Int) ≤ 16) (h0 : decide (0 ≤ g) = true) : decide (g < wrap64 (2 ^ m)) = gOk g m := by
  have e := pow_wrap1 ⟨m, by omega⟩
  dsimp only at e
  rw [e]
  unfold gOk
  rw [decide_eq_true (show (0 : Int) ≤ m by omega), decide_eq_true h, h0, Int.toNat_natCast]
  rfl

theorem rguard_any (g n : Int) (w : World) : Calls Try.prog 27 #[.int .i64 g, .int .i64 n] w fun e w' => e = .returned (.bool (gOk g n)) ∧ w' = w := by
  by_cases h : 0 ≤ n
  · have t1 : decide (0 ≤ n) = true := by simpa using h
    by_cases h2 : n ≤ 16
    · have t2 : decide (n ≤ 16) = true := by simpa using h2
      cases t3 : decide (0 ≤ g)
      · have e : gOk g n = false := by unfold gOk; rw [t1, t2, t3]; rfl
        rw [e]
        clear e h h2
        go_enter Try.func27, Try.ntmps27
        go_wp2
        go_ret
        exact ⟨rfl, rfl⟩
      · obtain ⟨m, rfl⟩ := Int.eq_ofNat_of_zero_le h
        go_enter Try.func27, Try.ntmps27
        go_wp2
        go_ret
        exact ⟨ret_bool (gOk_lt g m h2 t3), rfl⟩
    · have t2 : decide (n ≤ 16) = false := by simpa using h2
      have e : gOk g n = false := by unfold gOk; rw [t1, t2]; rfl
      rw [e]
      clear e h h2
      go_enter Try.func27, Try.ntmps27
      go_wp2
      go_ret
      exact ⟨rfl, rfl⟩
  · have t1 : decide (0 ≤ n) = false := by simpa using h
    have e : gOk g n = false := by unfold gOk; rw [t1]; rfl
    rw [e]
    clear e h
    go_enter Try.func27, Try.ntmps27
    go_wp2
    go_ret
    exact ⟨rfl, rfl⟩

set_option maxHeartbeats 1600000 in
theorem rmask_any (k o r b x g n : Int) (d : Bool) (q : Int) (w : World) : Calls Try.prog 17 #[.agg #[.int .i64 k, .int .i64 o, .int .i64 r, .int .i64 b, .int .i64 x, .int .i64 g, .int .i64 n, .bool d], .int .i64 q] w fun e w' => e = .returned (.agg #[.int .i64 (maskC (K.mk k o r b x g n d) q).k, .int .i64 (maskC (K.mk k o r b x g n d) q).o, .int .i64 (maskC (K.mk k o r b x g n d) q).r, .int .i64 (maskC (K.mk k o r b x g n d) q).b, .int .i64 (maskC (K.mk k o r b x g n d) q).x, .int .i64 (maskC (K.mk k o r b x g n d) q).g, .int .i64 (maskC (K.mk k o r b x g n d) q).n, .bool (maskC (K.mk k o r b x g n d) q).d]) ∧ Fr none' w w' := by
  by_cases hk : k = 4 ∨ k = 5 ∨ k = 6
  · rcases hk with rfl | rfl | rfl
    all_goals
      go_enter Try.func17, Try.ntmps17
      go_wp2
      refine bodyPost_ret (ret_cap rfl rfl (row_alloc1 _ _ _ _) rfl) rfl ?_
      exact ⟨rfl, ((Fr.refl _ _).alloc _).alloc _⟩
  · have t4 : (k == 4) = false := by rw [beq_eq_false_iff_ne]; omega
    have t5 : (k == 5) = false := by rw [beq_eq_false_iff_ne]; omega
    have t6 : (k == 6) = false := by rw [beq_eq_false_iff_ne]; omega
    have e : maskC (K.mk k o r b x g n d) q = (K.mk k o r b x g n d) := by unfold maskC; rw [if_neg hk]
    rw [e]
    clear e hk
    go_enter Try.func17, Try.ntmps17
    go_wp2
    refine bodyPost_ret (ret_cap rfl rfl (row_alloc1 _ _ _ _) rfl) rfl ?_
    exact ⟨rfl, ((Fr.refl _ _).alloc _).alloc _⟩

set_option maxHeartbeats 1600000 in
theorem rderive_any (k o r b x g n : Int) (d : Bool) (w : World) : Calls Try.prog 19 #[.agg #[.int .i64 k, .int .i64 o, .int .i64 r, .int .i64 b, .int .i64 x, .int .i64 g, .int .i64 n, .bool d]] w fun e w' => e = .returned (.tuple #[.agg #[.int .i64 (derC (K.mk k o r b x g n d)).k, .int .i64 (derC (K.mk k o r b x g n d)).o, .int .i64 (derC (K.mk k o r b x g n d)).r, .int .i64 (derC (K.mk k o r b x g n d)).b, .int .i64 (derC (K.mk k o r b x g n d)).x, .int .i64 (derC (K.mk k o r b x g n d)).g, .int .i64 (derC (K.mk k o r b x g n d)).n, .bool (derC (K.mk k o r b x g n d)).d], .int .i64 (refE k)]) ∧ Fr none' w w' := by
  by_cases hk : k = 0 ∨ k = 1 ∨ k = 7 ∨ k = 9 ∨ k = 11
  · rcases hk with rfl | rfl | rfl | rfl | rfl
    all_goals
      go_enter Try.func19, Try.ntmps19
      go_wp2
      refine bodyPost_ret (ret_cap_tmp rfl rfl (row_alloc1 _ _ _ _) rfl) rfl ?_
      exact ⟨rfl, ((Fr.refl _ _).alloc _).alloc _⟩
  · have t0 : (k == 0) = false := by rw [beq_eq_false_iff_ne]; omega
    have t1 : (k == 1) = false := by rw [beq_eq_false_iff_ne]; omega
    have t7 : (k == 7) = false := by rw [beq_eq_false_iff_ne]; omega
    have t9 : (k == 9) = false := by rw [beq_eq_false_iff_ne]; omega
    have t11 : (k == 11) = false := by rw [beq_eq_false_iff_ne]; omega
    have e : refE k = 0 := by unfold refE; rw [if_neg (by omega), if_neg (by omega)]
    have e' : derC (K.mk k o r b x g n d) = (K.mk k o r b x g n d) := by unfold derC; rw [if_pos e]
    rw [e, e']
    clear e e' hk
    go_enter Try.func19, Try.ntmps19
    go_wp2
    refine bodyPost_ret (ret_cap_tmp rfl rfl (row_alloc1 _ _ _ _) rfl) rfl ?_
    exact ⟨rfl, ((Fr.refl _ _).alloc _).alloc _⟩

set_option maxHeartbeats 1600000 in
theorem rsame_any (k o r b x g n : Int) (d : Bool) (k' o' r' b' x' g' n' : Int) (d' : Bool) (w : World) : Calls Try.prog 23 #[.agg #[.int .i64 k, .int .i64 o, .int .i64 r, .int .i64 b, .int .i64 x, .int .i64 g, .int .i64 n, .bool d], .agg #[.int .i64 k', .int .i64 o', .int .i64 r', .int .i64 b', .int .i64 x', .int .i64 g', .int .i64 n', .bool d']] w fun e w' => e = .returned (.bool (sameC (K.mk k o r b x g n d) (K.mk k' o' r' b' x' g' n' d'))) ∧ Fr none' w w' := by
  unfold sameC
  dsimp only
  cases h1 : (k != 0)
  · go_enter Try.func23, Try.ntmps23
    go_wp2
    go_ret
    exact ⟨rfl, ((Fr.refl _ _).alloc _).alloc _⟩
  · cases h2 : (k == k')
    · go_enter Try.func23, Try.ntmps23
      go_wp2
      go_ret
      exact ⟨rfl, ((Fr.refl _ _).alloc _).alloc _⟩
    · go_enter Try.func23, Try.ntmps23
      go_wp2
      go_ret
      exact ⟨rfl, ((Fr.refl _ _).alloc _).alloc _⟩

end Go.Proofs.Ytiiiiapaggkdkaa
