/-
  Contracts of the document's own answer (package viceroyref11): may, guard, Mask, Derive, Same. No statement is proved here.
-/
import Derived.Test.YtibdkadojoeopaaCapBound
namespace Go.Proofs.Ytibdkadojoeopaa
open Go.RowKit

theorem rmay_any (k : Int) (w : World) : Calls Try.prog 42 #[.int .i64 k] w fun e w' => e = .returned (.int .i64 (may k)) ∧ w' = w := by
  by_cases hk : k = 4 ∨ k = 5 ∨ k = 6
  · rcases hk with rfl | rfl | rfl
    all_goals
      go_enter Try.func42, Try.ntmps42
      go_wp2
      go_ret
      exact ⟨rfl, rfl⟩
  · have t4 : (k == 4) = false := by rw [beq_eq_false_iff_ne]; omega
    have t5 : (k == 5) = false := by rw [beq_eq_false_iff_ne]; omega
    have t6 : (k == 6) = false := by rw [beq_eq_false_iff_ne]; omega
    have e : may k = 0 := by unfold may; rw [if_neg (by omega), if_neg (by omega), if_neg (by omega)]
    rw [e]
    clear e hk
    go_enter Try.func42, Try.ntmps42
    go_wp2
    go_ret
    exact ⟨rfl, rfl⟩

theorem pow_wrap1 : ∀ m : Fin 17, wrap64 (2 ^ m.val) = (2 : Int) ^ m.val := by decide +kernel

theorem gOk_lt (g : Int) (m : Nat) (h : (m : Int) ≤ 16) (h0 : decide (0 ≤ g) = true) : decide (g < wrap64 (2 ^ m)) = gOk g m := by
  have e := pow_wrap1 ⟨m, by omega⟩
  dsimp only at e
  rw [e]
  unfold gOk
  rw [decide_eq_true (show (0 : Int) ≤ m by omega), decide_eq_true h, h0, Int.toNat_natCast]
  rfl

theorem rguard_any (g n : Int) (w : World) : Calls Try.prog 43 #[.int .i64 g, .int .i64 n] w fun e w' => e = .returned (.bool (gOk g n)) ∧ w' = w := by
  by_cases h : 0 ≤ n
  · have t1 : decide (0 ≤ n) = true := by simpa using h
    by_cases h2 : n ≤ 16
    · have t2 : decide (n ≤ 16) = true := by simpa using h2
      cases t3 : decide (0 ≤ g)
      · have e : gOk g n = false := by unfold gOk; rw [t1, t2, t3]; rfl
        rw [e]
        clear e h h2
        go_enter Try.func43, Try.ntmps43
        go_wp2
        go_ret
        exact ⟨rfl, rfl⟩
      · obtain ⟨m, rfl⟩ := Int.eq_ofNat_of_zero_le h
        go_enter Try.func43, Try.ntmps43
        go_wp2
        go_ret
        exact ⟨ret_bool (gOk_lt g m h2 t3), rfl⟩
    · have t2 : decide (n ≤ 16) = false := by simpa using h2
      have e : gOk g n = false := by unfold gOk; rw [t1, t2]; rfl
      rw [e]
      clear e h h2
      go_enter Try.func43, Try.ntmps43
      go_wp2
      go_ret
      exact ⟨rfl, rfl⟩
  · have t1 : decide (0 ≤ n) = false := by simpa using h
    have e : gOk g n = false := by unfold gOk; rw [t1]; rfl
    rw [e]
    clear e h
    go_enter Try.func43, Try.ntmps43
    go_wp2
    go_ret
    exact ⟨rfl, rfl⟩

end Go.Proofs.Ytibdkadojoeopaa
