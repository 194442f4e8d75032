/-
  What the statements on caps lean on, as plain facts: what is masked or minted of a right cap, masks twice, words apart. No program, no statement.
-/
import Derived.Test.YtiiiiapaggkdkaaCapPure
namespace Go.Proofs.Ytiiiiapaggkdkaa
open Go.RowKit

theorem refE_null (k : Int) : (refE k == 131) = (k == 0) := by
  rw [Bool.eq_iff_iff]
  simp only [beq_iff_eq]
  unfold refE
  constructor
  · intro h
    split at h
    · assumption
    · split at h <;> omega
  · intro h; rw [if_pos h]

theorem word_eq {c e : K} (h : rightC c = true) (h' : rightC e = true) : (wordC c == wordC e) = eqK c e := by
  rw [Bool.eq_iff_iff, eqK_iff]
  simp only [beq_iff_eq]
  exact ⟨word_inj h h', fun e => by rw [e]⟩

theorem masks (c : K) (q s : Int) : maskC (maskC c q) s = maskC c (bits .and .i64 q s) := by
  unfold maskC
  by_cases h : c.k = 4 ∨ c.k = 5 ∨ c.k = 6
  · rw [if_pos h, if_pos h]
    dsimp only
    rw [if_pos h, and_assoc64]
  · rw [if_neg h, if_neg h, if_neg h]

theorem right_i64 {c : K} (h : rightC c = true) : I64 c.r := by
  have := right_bounds h
  unfold I64
  omega

theorem mask_less (c : K) (q : Int) : bits .andNot .i64 (maskC c q).r c.r = 0 := by
  unfold maskC
  split
  · exact and_less _ _
  · exact self_less _

theorem mask_o (c : K) (q : Int) : (maskC c q).o = c.o := by unfold maskC; split <;> rfl
theorem mask_x (c : K) (q : Int) : (maskC c q).x = c.x := by unfold maskC; split <;> rfl
theorem mask_g (c : K) (q : Int) : (maskC c q).g = c.g := by unfold maskC; split <;> rfl
theorem mask_n (c : K) (q : Int) : (maskC c q).n = c.n := by unfold maskC; split <;> rfl
theorem mask_d (c : K) (q : Int) : (maskC c q).d = c.d := by unfold maskC; split <;> rfl
theorem mask_k' (c : K) (q : Int) : (maskC c q).k = c.k := by unfold maskC; split <;> rfl
theorem mask_b' (c : K) (q : Int) : (maskC c q).b = c.b := by unfold maskC; split <;> rfl

theorem mask_i64 {c : K} (h : I64 c.r) (q : Int) : I64 (maskC c q).r := by
  unfold maskC
  split
  · exact and_i64 _ _
  · exact h

theorem and_comm64 (x y : Int) : bits .and .i64 x y = bits .and .i64 y x := by rw [and_toInt, and_toInt, BitVec.and_comm]

theorem mask_right {c : K} (h : rightC c = true) (q : Int) : rightC (maskC c q) = true := by
  have e : (bits .and .i64 (maskC c q).r (may c.k) == (maskC c q).r) = true := by
    simp only [rightC, Bool.and_eq_true, beq_iff_eq] at h
    have h3 := h.2.1
    simp only [beq_iff_eq]
    unfold maskC
    split
    · show bits .and .i64 (bits .and .i64 c.r q) (may c.k) = bits .and .i64 c.r q
      rw [and_assoc64, and_comm64 q, ← and_assoc64, h3]
    · exact h3
  unfold rightC at h ⊢
  rw [mask_k', mask_o, mask_b', mask_x, mask_g, mask_n, mask_d, e]
  simp only [Bool.and_eq_true, Bool.true_and] at h ⊢
  exact ⟨h.1, h.2.2⟩

theorem mint_err (c : K) (q b g n : Int) (h : mintE c b g n ≠ 0) : mintC c q b g n = K0 := by
  unfold mintE at h
  unfold mintC
  by_cases h1 : refE c.k = 0
  · rw [if_pos h1] at h ⊢
    by_cases h2 : c.k = 4 ∨ c.k = 5
    · rw [if_pos h2] at h ⊢
      unfold badC
      have e : badE (maskC c q) b = badE c b := by unfold badE; rw [mask_b']
      rw [e, if_neg h]
    · rw [if_neg h2] at h ⊢
      by_cases h3 : c.k = 2
      · rw [if_pos h3] at h ⊢
        unfold guaE at h
        unfold guaC
        by_cases h4 : gOk g n = true
        · rw [if_pos h4] at h; exact absurd rfl h
        · rw [if_neg h4]
      · rw [if_neg h3] at h; exact absurd rfl h
  · rw [if_neg h1]

/-- What a Mint that goes through makes. -/
theorem mint_ok (c : K) (q b g n : Int) (h : mintE c b g n = 0) :
    refE c.k = 0 ∧ (((c.k = 4 ∨ c.k = 5) ∧ b = 0 ∧ mintC c q b g n = maskC c q) ∨ ((c.k = 4 ∨ c.k = 5) ∧ b ≠ 0 ∧ c.b = 0 ∧ bOk b = true ∧ mintC c q b g n = ⟨c.k, c.o, (maskC c q).r, b, c.x, c.g, c.n, c.d⟩) ∨ (c.k = 2 ∧ gOk g n = true ∧ mintC c q b g n = ⟨c.k, c.o, c.r, c.b, c.x, g, n, c.d⟩) ∨ (c.k ≠ 4 ∧ c.k ≠ 5 ∧ c.k ≠ 2 ∧ mintC c q b g n = maskC c q)) := by
  unfold mintE at h
  by_cases h1 : refE c.k = 0
  · refine ⟨h1, ?_⟩
    unfold mintC
    rw [if_pos h1] at h ⊢
    by_cases h2 : c.k = 4 ∨ c.k = 5
    · rw [if_pos h2] at h ⊢
      have e : badE (maskC c q) b = badE c b := by unfold badE; rw [mask_b']
      unfold badC
      rw [e, if_pos h]
      by_cases h3 : b = 0
      · rw [if_pos h3]; exact Or.inl ⟨h2, h3, rfl⟩
      · rw [if_neg h3]
        unfold badE at h
        rw [if_neg h3] at h
        by_cases h4 : c.b = 0
        · rw [if_neg (by simpa using h4)] at h
          by_cases h5 : bOk b = true
          · exact Or.inr (Or.inl ⟨h2, h3, h4, h5, K.ext' (mask_k' _ _) (mask_o _ _) rfl rfl (mask_x _ _) (mask_g _ _) (mask_n _ _) (mask_d _ _)⟩)
          · rw [if_neg h5] at h; omega
        · rw [if_pos h4] at h; omega
    · rw [if_neg h2] at h ⊢
      by_cases h3 : c.k = 2
      · rw [if_pos h3] at h ⊢
        unfold guaE at h
        by_cases h4 : gOk g n = true
        · unfold guaC
          rw [if_pos h4]
          have e : maskC c q = c := by unfold maskC; rw [if_neg (by omega)]
          rw [e]
          exact Or.inr (Or.inr (Or.inl ⟨h3, h4, rfl⟩))
        · rw [if_neg h4] at h; omega
      · rw [if_neg h3]
        exact Or.inr (Or.inr (Or.inr ⟨by omega, by omega, h3, rfl⟩))
  · rw [if_neg h1] at h; exact absurd h h1

theorem mint_right {c : K} (hc : rightC c = true) (q b g n : Int) (h : mintE c b g n = 0) : rightC (mintC c q b g n) = true := by
  have hm := mask_right hc q
  rcases (mint_ok c q b g n h).2 with ⟨_, _, e⟩ | ⟨hk, _, _, hb, e⟩ | ⟨hk, hg, e⟩ | ⟨_, _, _, e⟩
  · rw [e]; exact hm
  · rw [e]
    unfold rightC at hm ⊢
    rw [mask_k', mask_o, mask_b', mask_x, mask_g, mask_n, mask_d] at hm
    dsimp only
    rw [if_pos hk] at hm ⊢
    rw [hb]
    simp only [Bool.and_eq_true, Bool.true_and] at hm ⊢
    exact ⟨hm.1, hm.2.1, hm.2.2.2⟩
  · rw [e]
    unfold rightC at hc ⊢
    dsimp only
    rw [if_pos hk, if_neg (by omega)] at hc ⊢
    rw [hg]
    simp only [Bool.and_eq_true, and_true] at hc ⊢
    exact ⟨hc.1, hc.2.1, hc.2.2.1, hc.2.2.2.1, hc.2.2.2.2.1⟩
  · rw [e]; exact hm

theorem mint_same (c : K) (q b g n : Int) (h : mintE c b g n = 0) : sameC c (mintC c q b g n) = true ∧ bits .andNot .i64 (mintC c q b g n).r c.r = 0 ∧ (mintC c q b g n).d = c.d ∧ (c.b = 0 ∨ (mintC c q b g n).b = c.b) ∧ (mintC c q b g n).k = c.k := by
  obtain ⟨hr, hh⟩ := mint_ok c q b g n h
  have hk0 : c.k ≠ 0 := by intro e; rw [e] at hr; revert hr; decide
  have hml := mask_less c q
  rcases hh with ⟨_, _, e⟩ | ⟨hk, _, hb0, hb, e⟩ | ⟨hk, hg, e⟩ | ⟨_, _, _, e⟩
  · rw [e]; refine ⟨?_, hml, mask_d _ _, Or.inr (mask_b' _ _), mask_k' _ _⟩
    unfold sameC; rw [mask_k', mask_o]; simpa using hk0
  · rw [e]; refine ⟨?_, hml, rfl, Or.inl hb0, rfl⟩
    unfold sameC; simpa using hk0
  · rw [e]; refine ⟨?_, self_less _, rfl, Or.inr rfl, rfl⟩
    unfold sameC; simpa using hk0
  · rw [e]; refine ⟨?_, hml, mask_d _ _, Or.inr (mask_b' _ _), mask_k' _ _⟩
    unfold sameC; rw [mask_k', mask_o]; simpa using hk0

theorem mint_i64 {c : K} (hc : I64 c.r) (q b g n : Int) : I64 (mintC c q b g n).r := by
  by_cases h : mintE c b g n = 0
  · rcases (mint_ok c q b g n h).2 with ⟨_, _, e⟩ | ⟨_, _, _, _, e⟩ | ⟨_, _, e⟩ | ⟨_, _, _, e⟩
    · rw [e]; exact mask_i64 hc q
    · rw [e]; exact mask_i64 hc q
    · rw [e]; exact hc
    · rw [e]; exact mask_i64 hc q
  · rw [mint_err c q b g n h]; show I64 0; unfold I64; omega

/-- Minted twice. -/
theorem mint_again (c : K) (q b s : Int) (h : mintE c b c.g c.n = 0) :
    mintE (mintC c q b c.g c.n) 0 c.g c.n = 0 ∧ (mintC (mintC c q b c.g c.n) s 0 c.g c.n).b = (mintC c q b c.g c.n).b ∧ ((c.k = 4 ∨ c.k = 5 ∨ c.k = 6) → (mintC (mintC c q b c.g c.n) s 0 c.g c.n).r = bits .and .i64 (mintC c q b c.g c.n).r s) := by
  obtain ⟨hr, hh⟩ := mint_ok c q b c.g c.n h
  have hk := (mint_same c q b c.g c.n h).2.2.2.2
  have hE : mintE (mintC c q b c.g c.n) 0 c.g c.n = 0 := by
    unfold mintE
    rw [hk, if_pos hr]
    by_cases h2 : c.k = 4 ∨ c.k = 5
    · rw [if_pos h2]; unfold badE; rw [if_pos rfl]
    · rw [if_neg h2]
      by_cases h3 : c.k = 2
      · rw [if_pos h3]
        unfold mintE at h
        rw [if_pos hr, if_neg h2, if_pos h3] at h
        exact h
      · rw [if_neg h3]
  refine ⟨hE, ?_⟩
  generalize mintC c q b c.g c.n = m at *
  rcases (mint_ok m s 0 c.g c.n hE).2 with ⟨k4, _, e⟩ | ⟨_, h0, _⟩ | ⟨k2, _, e⟩ | ⟨_, _, _, e⟩
  · rw [e]
    refine ⟨mask_b' _ _, fun _ => ?_⟩
    unfold maskC; rw [if_pos (by omega)]
  · exact absurd rfl h0
  · rw [e]
    exact ⟨rfl, fun hx => by omega⟩
  · rw [e]
    refine ⟨mask_b' _ _, fun hx => ?_⟩
    unfold maskC; rw [if_pos (by omega)]

end Go.Proofs.Ytiiiiapaggkdkaa
