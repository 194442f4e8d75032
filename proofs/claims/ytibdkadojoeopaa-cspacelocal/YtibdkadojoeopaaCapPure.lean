/-
  Plain facts on capabilities: the program's own way of asking against the table, words read back, what is derived of a right one. No program, no statement.
-/
import Derived.Test.YtibdkadojoeopaaCapDefs
namespace Go.Proofs.Ytibdkadojoeopaa
open Go.RowKit

/-- A cap with nothing but what its kind has. -/
def onlyC (c : K) : K :=
  if c.k = 1 then ⟨c.k, c.o, 0, 0, 0, 0, 0, c.d⟩ else if c.k = 2 then ⟨c.k, c.o, 0, 0, c.x, c.g, c.n, false⟩ else if c.k = 4 ∨ c.k = 5 then ⟨c.k, c.o, c.r, c.b, 0, 0, 0, false⟩ else if c.k = 6 then ⟨c.k, c.o, c.r, 0, 0, 0, 0, c.d⟩ else ⟨c.k, c.o, 0, 0, 0, 0, 0, false⟩

/-- Whether what it has is in its bounds. -/
def bndC (c : K) : Bool :=
  (decide (0 ≤ c.o) && decide (c.o ≤ objs c.k - 1)) && (if c.k = 2 then (decide (1 ≤ c.x) && decide (c.x ≤ 4)) && gOk c.g c.n else if c.k = 4 then (bits .andNot .i64 c.r 11 == 0) && bOk c.b else if c.k = 5 then (bits .andNot .i64 c.r 3 == 0) && bOk c.b else if c.k = 6 then bits .andNot .i64 c.r 7 == 0 else true)

theorem kind_cases (k : Int) : k = 1 ∨ k = 2 ∨ k = 4 ∨ k = 5 ∨ k = 6 ∨ (k ≠ 1 ∧ k ≠ 2 ∧ k ≠ 4 ∧ k ≠ 5 ∧ k ≠ 6) := by omega

theorem right_only {c : K} (h : I64 c.r) : (eqK c (onlyC c) && bndC c) = rightC c := by
  have e11 := subset_iff h 11
  have e3 := subset_iff h 3
  have e7 := subset_iff h 7
  have e0 := and_zero64 c.r
  unfold rightC bndC onlyC eqK may
  have lt : decide (c.o ≤ objs c.k - 1) = decide (c.o < objs c.k) := by
    by_cases hh : c.o < objs c.k
    · rw [decide_eq_true hh, decide_eq_true (by omega)]
    · rw [decide_eq_false hh, decide_eq_false (by omega)]
  rw [lt]
  generalize (decide (0 ≤ c.o) && decide (c.o < objs c.k)) = A
  have ec : ∀ z : Int, ((0 : Int) == z) = (z == 0) := fun z => by rw [Bool.eq_iff_iff]; simp only [beq_iff_eq]; exact eq_comm
  rcases kind_cases c.k with h1 | h1 | h1 | h1 | h1 | ⟨h1, h2, h3, h4, h5⟩
  · simp [h1, e0, ec]
    generalize (c.r == 0) = z1; generalize (c.b == 0) = z2; generalize (c.x == 0) = z3; generalize (c.g == 0) = z4; generalize (c.n == 0) = z5
    cases A <;> cases z1 <;> cases z2 <;> cases z3 <;> cases z4 <;> cases z5 <;> rfl
  · simp [h1, e0, ec]
    generalize (c.r == 0) = z1; generalize (c.b == 0) = z2; generalize (decide (1 ≤ c.x) && decide (c.x ≤ 4)) = z3; generalize gOk c.g c.n = z4; generalize c.d = z5
    cases A <;> cases z1 <;> cases z2 <;> cases z3 <;> cases z4 <;> cases z5 <;> rfl
  · simp [h1, e11]
    generalize (bits .and .i64 c.r 11 == c.r) = z1; generalize bOk c.b = z2; generalize (c.x == 0) = z3; generalize (c.g == 0) = z4; generalize (c.n == 0) = z5; generalize c.d = z6
    cases A <;> cases z1 <;> cases z2 <;> cases z3 <;> cases z4 <;> cases z5 <;> cases z6 <;> rfl
  · simp [h1, e3]
    generalize (bits .and .i64 c.r 3 == c.r) = z1; generalize bOk c.b = z2; generalize (c.x == 0) = z3; generalize (c.g == 0) = z4; generalize (c.n == 0) = z5; generalize c.d = z6
    cases A <;> cases z1 <;> cases z2 <;> cases z3 <;> cases z4 <;> cases z5 <;> cases z6 <;> rfl
  · simp [h1, e7]
    generalize (bits .and .i64 c.r 7 == c.r) = z1; generalize (c.b == 0) = z2; generalize (c.x == 0) = z3; generalize (c.g == 0) = z4; generalize (c.n == 0) = z5
    cases A <;> cases z1 <;> cases z2 <;> cases z3 <;> cases z4 <;> cases z5 <;> rfl
  · have g1 : (c.k == 1) = false := by simpa using h1
    have g6 : (c.k == 6) = false := by simpa using h5
    simp [h1, h2, h3, h4, h5, e0, ec, g1, g6]
    generalize (c.r == 0) = z1; generalize (c.b == 0) = z2; generalize (c.x == 0) = z3; generalize (c.g == 0) = z4; generalize (c.n == 0) = z5; generalize c.d = z6
    cases A <;> cases z1 <;> cases z2 <;> cases z3 <;> cases z4 <;> cases z5 <;> cases z6 <;> rfl

theorem gOk_bounds {g n : Int} (h : gOk g n = true) : 0 ≤ n ∧ n ≤ 16 ∧ 0 ≤ g ∧ g < 65536 := by
  simp only [gOk, Bool.and_eq_true, decide_eq_true_eq] at h
  obtain ⟨h1, h2, h3, h4⟩ := h
  refine ⟨h1, h2, h3, ?_⟩
  have h5 : n.toNat ≤ 16 := by omega
  have h6 : (2 : Nat) ^ n.toNat ≤ 2 ^ 16 := Nat.pow_le_pow_right (by omega) h5
  have h7 : ((2 : Int) ^ n.toNat) = ((2 ^ n.toNat : Nat) : Int) := by simp
  rw [h7] at h4
  omega

theorem right_bounds {c : K} (h : rightC c = true) : 0 ≤ c.k ∧ c.k ≤ 11 ∧ 0 ≤ c.o ∧ c.o ≤ 1023 ∧ 0 ≤ c.r ∧ c.r ≤ 15 ∧ 0 ≤ c.b ∧ c.b ≤ 1048575 ∧ 0 ≤ c.x ∧ c.x ≤ 4 ∧ 0 ≤ c.n ∧ c.n ≤ 16 ∧ 0 ≤ c.g ∧ c.g < 65536 := by
  simp only [rightC, Bool.and_eq_true, decide_eq_true_eq, beq_iff_eq] at h
  obtain ⟨⟨h1, h2⟩, h3, h4, h5, h6⟩ := h
  obtain ⟨m, hm, hm'⟩ := may_range c.k
  have h7 := and_range c.r m hm'
  rw [← hm, h3] at h7
  have h8 : 0 ≤ c.b ∧ c.b ≤ 1048575 := by
    split at h4
    · simpa [bOk] using h4
    · simp at h4; omega
  have h9 : 0 ≤ c.x ∧ c.x ≤ 4 ∧ 0 ≤ c.n ∧ c.n ≤ 16 ∧ 0 ≤ c.g ∧ c.g < 65536 := by
    split at h6
    · simp only [Bool.and_eq_true, decide_eq_true_eq] at h6
      have := gOk_bounds h6.2
      omega
    · simp only [Bool.and_eq_true, beq_iff_eq] at h6
      omega
  have h10 : 0 ≤ c.k ∧ c.k ≤ 11 ∧ c.o ≤ 1023 := by
    unfold objs at h2
    split at h2
    · omega
    split at h2
    · omega
    split at h2
    · omega
    split at h2 <;> omega
  omega

theorem word_bounds {c : K} (h : rightC c = true) : 0 ≤ wordC c ∧ wordC c < 9223372036854775808 := by
  have := right_bounds h
  unfold wordC
  split <;> omega

theorem parts_word {c : K} (h : rightC c = true) : partsC (wordC c) = c := by
  have := right_bounds h
  unfold partsC wordC
  cases hd : c.d
  all_goals refine K.ext' ?_ ?_ ?_ ?_ ?_ ?_ ?_ ?_
  all_goals simp only [hd, if_true, Bool.false_eq_true, if_false, beq_eq_false_iff_ne, ne_eq, beq_iff_eq]
  all_goals omega

theorem dec_enc {c : K} (h : rightC c = true) : decC (wordC c) = c ∧ decE (wordC c) = 0 := by
  have e := parts_word h
  have ok : decOk (wordC c) = true := by unfold decOk; rw [e, h]; simp
  unfold decC decE
  rw [ok, if_pos rfl, if_pos rfl]
  exact ⟨e, rfl⟩

theorem word_inj {c e : K} (h : rightC c = true) (h' : rightC e = true) (w : wordC c = wordC e) : c = e := by
  rw [← parts_word h, ← parts_word h', w]

end Go.Proofs.Ytibdkadojoeopaa
