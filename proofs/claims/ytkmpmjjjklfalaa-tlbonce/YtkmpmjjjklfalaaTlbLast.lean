/-
  What 'once' leans on: behind each act every line that is there is the last one that was filled for its page. No statement is proved here.
-/
import Derived.Test.YtkmpmjjjklfalaaTlbOwn
namespace Go.Proofs.Ytkmpmjjjklfalaa
open Go.RowKit

/-- Each line that is there was filled last for its page. -/
def Lastly (T : Nat → Ln) (n : Nat) (Fs : Nat → Ln) : Prop :=
  ∀ j, j < 8 → emp (T j) = false → ∃ i, i < n ∧ Fs i = T j ∧ ∀ i', i < i' → i' < n → key (Fs i') (T j) = false

theorem lastly_zero (Fs : Nat → Ln) : Lastly (fun _ => zl) 0 Fs := fun _ _ h => absurd (show emp zl = false from h) (by decide)

theorem lastly_sub {T T' : Nat → Ln} {n : Nat} {Fs : Nat → Ln} (h : Lastly T n Fs) (hs : ∀ j, j < 8 → emp (T' j) = false → T' j = T j) : Lastly T' n Fs := by
  intro j hj he
  have e := hs j hj he
  rw [e] at he ⊢
  exact h j hj he

theorem lastly_fill {T : Nat → Ln} {n : Nat} {Fs : Nat → Ln} (h : Lastly T n Fs) (k : Nat) (x : Ln) : Lastly (filled T k x) (n + 1) (upd Fs n x) := by
  intro j hj he
  by_cases hjk : j = k
  · subst hjk
    rw [filled, upd_same]
    exact ⟨n, by omega, upd_same _ _ _, fun i' h1 h2 => by omega⟩
  · rw [filled, upd_other _ _ hjk] at he ⊢
    obtain ⟨hk, hw⟩ := wiped_key he
    rw [hw] at he hk ⊢
    obtain ⟨i, hi, e, hl⟩ := h j hj he
    refine ⟨i, by omega, by rw [upd_other _ _ (by omega)]; exact e, fun i' h1 h2 => ?_⟩
    by_cases hin : i' = n
    · subst hin; rw [upd_same, key_comm]; exact hk
    · rw [upd_other _ _ hin]; exact hl i' h1 (by omega)

theorem sub_wipe (g : Ln → Bool) (T : Nat → Ln) (j : Nat) (he : emp (wipe g T j) = false) : wipe g T j = T j := by
  rcases wipe_cases g T j with ⟨e, _⟩ | ⟨e, _⟩
  · rw [e] at he; exact absurd he (by decide)
  · exact e

theorem sub_step {d i : Int} {x : Ln} {vm sp pg : Int} {T : Nat → Ln} (hn : d = 1 → inB i 0 7 = true → rightL x = true → False) (j : Nat) (he : emp (stepT d i x vm sp pg T j) = false) : stepT d i x vm sp pg T j = T j := by
  unfold stepT at he ⊢
  by_cases h1 : d = 1
  · rw [if_pos h1] at he ⊢
    unfold fillT at he ⊢
    cases hi : inB i 0 7 <;> cases hx : rightL x <;> simp only [hi, hx, Bool.and_true, Bool.and_false, cond_false, cond_true] at he ⊢
    exact (hn h1 hi hx).elim
  rw [if_neg h1] at he ⊢
  by_cases h2 : d = 2
  · rw [if_pos h2]
  rw [if_neg h2] at he ⊢
  by_cases h3 : d = 3
  · rw [if_pos h3] at he ⊢
    unfold evT at he ⊢
    cases hi : inB i 0 7 <;> simp only [hi, cond_false, cond_true] at he ⊢
    by_cases hji : j = i.toNat
    · subst hji; rw [upd_same] at he; exact absurd he (by decide)
    · rw [upd_other _ _ hji]
  rw [if_neg h3] at he ⊢
  by_cases h4 : vm < 0 ∨ sp < 0 ∨ pg < 0
  · rw [if_pos h4]
  rw [if_neg h4] at he ⊢
  by_cases h5 : d = 4
  · rw [if_pos h5] at he ⊢; exact sub_wipe _ _ _ he
  rw [if_neg h5] at he ⊢
  by_cases h6 : d = 5
  · rw [if_pos h6] at he ⊢; exact sub_wipe _ _ _ he
  rw [if_neg h6] at he ⊢
  by_cases h7 : d = 6
  · rw [if_pos h7] at he ⊢; exact sub_wipe _ _ _ he
  rw [if_neg h7] at he ⊢
  by_cases h8 : d = 7
  · rw [if_pos h8] at he ⊢; exact sub_wipe _ _ _ he
  rw [if_neg h8]

/-- No other entry speaks of a line's page. -/
theorem apart_key {T : Nat → Ln} (hG : Good T) (hU : Uniq T) {m j : Nat} (hm : m < j) (hj : j < 8) (he : emp (T j) = false) : key (T m) (T j) = false := by
  cases hk : key (T m) (T j) with
  | false => rfl
  | true =>
    exfalso
    cases hm' : emp (T m) with
    | false => have := hU m j (by omega) hj hm' he hk; omega
    | true =>
      rw [emp_iff.mp hm'] at hk
      have hv := (key_iff.mp hk).1
      rcases hG j hj with e | e
      · rw [e] at he; exact absurd he (by decide)
      · have := (rightL_iff.mp e).1
        have hv' : (0 : Int) = (T j).v := hv
        omega

end Go.Proofs.Ytkmpmjjjklfalaa
