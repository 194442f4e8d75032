/-
  Plain facts on what both tables' walk tells: with a fault nothing is found; what is found lies in what the other table gives; less rights find nothing more. No program, no statement.
-/
import Derived.Test.YthmombgogmgobaaWalkBits
namespace Go.Proofs.Ythmombgogmgobaa
open Go.RowKit

theorem nested_cases (bs : List UInt8) (nf : Nat) (first second page want : Int) :
    ((isP page = false ∨ isR want = false) ∧ nested bs nf first second page want = miss 3 0 0 false 0) ∨
    (isP page = true ∧ isR want = true ∧ first < 0 ∧ nested bs nf first second page want = granted bs nf second page want) ∨
    (isP page = true ∧ isR want = true ∧ (nested bs nf first second page want).ft.k ≠ 0 ∧ (nested bs nf first second page want).fr = 0 ∧ (nested bs nf first second page want).ri = 0) ∨
    (isP page = true ∧ isR want = true ∧ ¬ first < 0 ∧ (nested bs nf first second page want).ft.k = 0 ∧ ∃ y : Res, (0 ≤ y.fr ∧ y.fr ≤ 1023) ∧ (0 ≤ y.ri ∧ y.ri ≤ 7) ∧ bits .and .i64 y.ri want ≠ 0 ∧
      (granted bs nf second y.fr want).ft.k = 0 ∧ (nested bs nf first second page want).fr = (granted bs nf second y.fr want).fr ∧ (nested bs nf first second page want).ri = bits .and .i64 (granted bs nf second y.fr want).ri y.ri ∧ (nested bs nf first second page want).ft = f0) := by
  by_cases h0 : isP page = false ∨ isR want = false
  · left; refine ⟨h0, ?_⟩; unfold nested; rw [if_pos h0]
  have hp : isP page = true := by cases h : isP page with | true => rfl | false => exact absurd (Or.inl h) h0
  have hw : isR want = true := by cases h : isR want with | true => rfl | false => exact absurd (Or.inr h) h0
  right
  by_cases hf : first < 0
  · left; refine ⟨hp, hw, hf, ?_⟩; unfold nested; rw [if_neg h0, if_pos hf]
  right
  by_cases h1 : (guest bs nf second first page 0).ft.k = 0
  · by_cases h2 : (guest bs nf second (guest bs nf second first page 0).fr page 1).ft.k = 0
    · by_cases h3 : bits .and .i64 (guest bs nf second (guest bs nf second first page 0).fr page 1).ri want = 0
      · left
        have e : nested bs nf first second page want = miss 2 1 1 false page := by
          unfold nested
          rw [if_neg h0, if_neg hf, if_neg (by simpa using h1), if_neg (by simpa using h2), if_pos h3]
        rw [e]
        exact ⟨hp, hw, (by decide : (2 : Int) ≠ 0), rfl, rfl⟩
      · have e : nested bs nf first second page want = ⟨(granted bs nf second (guest bs nf second (guest bs nf second first page 0).fr page 1).fr want).fr,
            bits .and .i64 (granted bs nf second (guest bs nf second (guest bs nf second first page 0).fr page 1).fr want).ri (guest bs nf second (guest bs nf second first page 0).fr page 1).ri,
            (granted bs nf second (guest bs nf second (guest bs nf second first page 0).fr page 1).fr want).ft⟩ := by
          unfold nested
          rw [if_neg h0, if_neg hf, if_neg (by simpa using h1), if_neg (by simpa using h2), if_neg h3]
        have hr := guest_range h2
        by_cases h4 : (granted bs nf second (guest bs nf second (guest bs nf second first page 0).fr page 1).fr want).ft.k = 0
        · right
          rw [e]
          exact ⟨hp, hw, hf, h4, guest bs nf second (guest bs nf second first page 0).fr page 1, hr.1, hr.2, h3, h4, rfl, rfl, granted_f0 h4⟩
        · left
          rw [e]
          have z := granted_zero _ _ _ _ _ h4
          refine ⟨hp, hw, h4, z.1, ?_⟩
          show bits .and .i64 (granted bs nf second (guest bs nf second (guest bs nf second first page 0).fr page 1).fr want).ri (guest bs nf second (guest bs nf second first page 0).fr page 1).ri = 0
          rw [z.2]
          have a := and_range 0 (guest bs nf second (guest bs nf second first page 0).fr page 1).ri (by omega) (by omega)
          omega
    · left
      have e : nested bs nf first second page want = guest bs nf second (guest bs nf second first page 0).fr page 1 := by
        unfold nested
        rw [if_neg h0, if_neg hf, if_neg (by simpa using h1), if_pos h2]
      rw [e]
      exact ⟨hp, hw, h2, (guest_zero _ _ _ _ _ _ h2).1, (guest_zero _ _ _ _ _ _ h2).2⟩
  · left
    have e : nested bs nf first second page want = guest bs nf second first page 0 := by
      unfold nested
      rw [if_neg h0, if_neg hf, if_pos h1]
    rw [e]
    exact ⟨hp, hw, h1, (guest_zero _ _ _ _ _ _ h1).1, (guest_zero _ _ _ _ _ _ h1).2⟩

/-- With a fault nothing is found. -/
theorem nested_zero (bs : List UInt8) (nf : Nat) (first second page want : Int) (h : (nested bs nf first second page want).ft.k ≠ 0) : (nested bs nf first second page want).fr = 0 ∧ (nested bs nf first second page want).ri = 0 := by
  rcases nested_cases bs nf first second page want with ⟨_, e⟩ | ⟨_, _, _, e⟩ | ⟨_, _, _, e⟩ | ⟨_, _, _, e, _⟩
  · rw [e]; exact ⟨rfl, rfl⟩
  · rw [e] at h ⊢; exact granted_zero _ _ _ _ _ h
  · exact e
  · exact absurd e h

theorem and_self (r : Int) (h0 : 0 ≤ r) (h7 : r ≤ 7) : bits .andNot .i64 r r = 0 := by
  have hr : r = 0 ∨ r = 1 ∨ r = 2 ∨ r = 3 ∨ r = 4 ∨ r = 5 ∨ r = 6 ∨ r = 7 := by omega
  rcases hr with rfl | rfl | rfl | rfl | rfl | rfl | rfl | rfl <;> decide

/-- What is found lies in what the other table says of some page, with that right there. -/
theorem confined (bs : List UInt8) (nf : Nat) (first second page want : Int) (h : (nested bs nf first second page want).ft.k = 0) : bits .and .i64 (nested bs nf first second page want).ri want ≠ 0 ∧
    ∃ g : Nat, g < 1024 ∧ (single bs nf second (g : Int)).ft.k = 0 ∧ (single bs nf second (g : Int)).fr = (nested bs nf first second page want).fr ∧ bits .and .i64 (single bs nf second (g : Int)).ri want ≠ 0 ∧ bits .andNot .i64 (nested bs nf first second page want).ri (single bs nf second (g : Int)).ri = 0 := by
  rcases nested_cases bs nf first second page want with ⟨_, e⟩ | ⟨hp, _, _, e⟩ | ⟨_, _, e, _⟩ | ⟨_, hw, _, _, y, hy1, hy2, hy3, hg, e1, e2, _⟩
  · rw [e] at h; exact absurd (show (3 : Int) = 0 from h) (by decide)
  · rw [e] at h ⊢
    obtain ⟨e', h1, h2⟩ := granted_ok h
    rw [e']
    have hq := isP_iff.1 hp
    obtain ⟨g, rfl⟩ := Int.eq_ofNat_of_zero_le hq.1
    have hr := (single_range bs nf second (g : Int)).2.1
    exact ⟨h2, g, by omega, h1, rfl, h2, and_self _ hr.1 hr.2⟩
  · exact absurd h e
  · obtain ⟨e', h1, h2⟩ := granted_ok hg
    rw [e1, e2, e']
    obtain ⟨g, hgq⟩ := Int.eq_ofNat_of_zero_le hy1.1
    rw [hgq] at h1 h2 ⊢
    have hr := (single_range bs nf second (g : Int)).2.1
    exact ⟨and_both _ _ _ hr.1 hr.2 hy2.1 hy2.2 (isR_iff.1 hw) h2 hy3, g, by omega, h1, rfl, h2, and_sub _ _ hr.1 hr.2⟩

/-- A walk that is through has gone by two entries that can be used. -/
theorem single_through {bs : List UInt8} {nf : Nat} {root page : Int} (h : (single bs nf root page).ft.k = 0) : isP page = true ∧ entK bs nf root page 0 = 0 ∧ entK bs nf (df (ew bs root page 0)) page 1 = 0 ∧
    single bs nf root page = ⟨df (ew bs (df (ew bs root page 0)) page 1), dr (ew bs (df (ew bs root page 0)) page 1), f0⟩ := by
  rcases single_cases bs nf root page with ⟨_, e⟩ | ⟨_, h1, e⟩ | ⟨_, _, h2, e⟩ | h'
  · rw [e] at h; exact absurd (show (3 : Int) = 0 from h) (by decide)
  · rw [e] at h; exact absurd h h1
  · rw [e] at h; exact absurd h h2
  · exact h'

theorem entK_ok {bs : List UInt8} {nf : Nat} {t page lvl : Int} (h : entK bs nf t page lvl = 0) : ¬ (t < 0 ∨ (nf : Int) ≤ t) ∧ usable (ew bs t page lvl) lvl = true := by
  rcases entK_cases bs nf t page lvl with ⟨e, _⟩ | ⟨_, a, b⟩ | ⟨e, _⟩
  · rw [e] at h; exact absurd h (by decide)
  · exact ⟨a, b⟩
  · rw [e] at h; exact absurd h (by decide)

theorem entK_mk {bs : List UInt8} {nf : Nat} {t page lvl : Int} (h1 : ¬ (t < 0 ∨ (nf : Int) ≤ t)) (h2 : usable (ew bs t page lvl) lvl = true) : entK bs nf t page lvl = 0 := by
  unfold entK; rw [if_neg h1, if_pos h2]

/-- An entry of the last level that has a right less lets nothing be found that was not, nor elsewhere. -/
theorem single_less {bs bs' : List UInt8} {nf : Nat} {root page : Int} {T i : Nat} {r' : Int}
    (hv : dv ((half bs T i : Nat) : Int) = true) (hl : dl ((half bs T i : Nat) : Int) = true)
    (hl' : dl ((half bs' T i : Nat) : Int) = true) (hf : df ((half bs' T i : Nat) : Int) = df ((half bs T i : Nat) : Int)) (hr : dr ((half bs' T i : Nat) : Int) = bits .and .i64 (dr ((half bs T i : Nat) : Int)) r')
    (ho : ∀ k j : Nat, j < 32 → ¬ (k = T ∧ j = i) → half bs' k j = half bs k j) (h : (single bs' nf root page).ft.k = 0) :
    (single bs nf root page).ft.k = 0 ∧ (single bs nf root page).fr = (single bs' nf root page).fr ∧ ((single bs' nf root page).ri = (single bs nf root page).ri ∨ (single bs' nf root page).ri = bits .and .i64 (single bs nf root page).ri r') := by
  obtain ⟨hp, h1, h2, e⟩ := single_through h
  have hq := isP_iff.1 hp
  have i0 : idxOf page 0 = page / 32 := by unfold idxOf; rw [if_neg (by omega), if_pos rfl]
  have i1 : idxOf page 1 = page % 32 := by unfold idxOf; rw [if_neg (by omega), if_neg (by omega), if_pos rfl]
  obtain ⟨a1, u1⟩ := entK_ok h1
  obtain ⟨a2, u2⟩ := entK_ok h2
  have eq0 : ew bs root page 0 = ew bs' root page 0 := by
    unfold ew
    by_cases hc : root.toNat = T ∧ (idxOf page 0).toNat = i
    · exfalso
      have : ew bs' root page 0 = ((half bs' T i : Nat) : Int) := by unfold ew; rw [hc.1, hc.2]
      rw [this] at u1
      simp [usable, hl'] at u1
    · rw [ho _ _ (by rw [i0]; omega) hc]
  have k1 : entK bs nf root page 0 = 0 := entK_mk a1 (by rw [eq0]; exact u1)
  by_cases hc : (df (ew bs' root page 0)).toNat = T ∧ (idxOf page 1).toNat = i
  · have x' : ew bs' (df (ew bs' root page 0)) page 1 = ((half bs' T i : Nat) : Int) := by
      have : ∀ z : Int, z = df (ew bs' root page 0) → ew bs' z page 1 = ((half bs' T i : Nat) : Int) := fun z hz => by unfold ew; rw [hz, hc.1, hc.2]
      exact this _ rfl
    have x : ew bs (df (ew bs' root page 0)) page 1 = ((half bs T i : Nat) : Int) := by
      have : ∀ z : Int, z = df (ew bs' root page 0) → ew bs z page 1 = ((half bs T i : Nat) : Int) := fun z hz => by unfold ew; rw [hz, hc.1, hc.2]
      exact this _ rfl
    have k2 : entK bs nf (df (ew bs root page 0)) page 1 = 0 := by
      rw [eq0]
      exact entK_mk a2 (by rw [x]; simp [usable, hv, hl])
    have es : single bs nf root page = ⟨df (ew bs (df (ew bs root page 0)) page 1), dr (ew bs (df (ew bs root page 0)) page 1), f0⟩ := by
      unfold single; rw [if_neg (by simp [hp]), if_neg (by simpa using k1), if_neg (by simpa using k2)]
    rw [es, e, eq0, x, x']
    exact ⟨rfl, hf.symm, Or.inr hr⟩
  · have x : ew bs (df (ew bs' root page 0)) page 1 = ew bs' (df (ew bs' root page 0)) page 1 := by
      have : ∀ z : Int, z = df (ew bs' root page 0) → ew bs z page 1 = ew bs' z page 1 := fun z hz => by unfold ew; rw [ho _ _ (by rw [i1]; omega) (by rw [hz]; exact hc)]
      exact this _ rfl
    have k2 : entK bs nf (df (ew bs root page 0)) page 1 = 0 := by
      rw [eq0]
      exact entK_mk a2 (by rw [x]; exact u2)
    have es : single bs nf root page = ⟨df (ew bs (df (ew bs root page 0)) page 1), dr (ew bs (df (ew bs root page 0)) page 1), f0⟩ := by
      unfold single; rw [if_neg (by simp [hp]), if_neg (by simpa using k1), if_neg (by simpa using k2)]
    rw [es, e, eq0, x]
    exact ⟨rfl, rfl, Or.inl rfl⟩

theorem granted_mk {bs : List UInt8} {nf : Nat} {root page want : Int} (h1 : (single bs nf root page).ft.k = 0) (h2 : bits .and .i64 (single bs nf root page).ri want ≠ 0) : granted bs nf root page want = single bs nf root page := by
  unfold granted; rw [if_neg (by simpa using h1), if_neg h2]

/-- The same of a guest without tables of its own. -/
theorem nested_less {bs bs' : List UInt8} {nf : Nat} {first second page want : Int} {T i : Nat} {r' : Int} (hfirst : first < 0)
    (hv : dv ((half bs T i : Nat) : Int) = true) (hl : dl ((half bs T i : Nat) : Int) = true)
    (hl' : dl ((half bs' T i : Nat) : Int) = true) (hf : df ((half bs' T i : Nat) : Int) = df ((half bs T i : Nat) : Int)) (hr : dr ((half bs' T i : Nat) : Int) = bits .and .i64 (dr ((half bs T i : Nat) : Int)) r')
    (ho : ∀ k j : Nat, j < 32 → ¬ (k = T ∧ j = i) → half bs' k j = half bs k j) (h : (nested bs' nf first second page want).ft.k = 0) :
    (nested bs nf first second page want).ft.k = 0 ∧ (nested bs nf first second page want).fr = (nested bs' nf first second page want).fr ∧ bits .andNot .i64 (nested bs' nf first second page want).ri (nested bs nf first second page want).ri = 0 := by
  have plain : ∀ c : List UInt8, ¬ (isP page = false ∨ isR want = false) → nested c nf first second page want = granted c nf second page want := fun c h0 => by
    unfold nested; rw [if_neg h0, if_pos hfirst]
  by_cases h0 : isP page = false ∨ isR want = false
  · have : nested bs' nf first second page want = miss 3 0 0 false 0 := by unfold nested; rw [if_pos h0]
    rw [this] at h; exact absurd (show (3 : Int) = 0 from h) (by decide)
  · rw [plain bs h0, plain bs' h0] at *
    obtain ⟨e', h1, h2⟩ := granted_ok h
    obtain ⟨s1, s2, s3⟩ := single_less hv hl hl' hf hr ho h1
    have hq := (single_range bs nf second page).2.1
    have hb : bits .and .i64 (single bs nf second page).ri want ≠ 0 := by
      rcases s3 with s3 | s3
      · rw [← s3]; exact h2
      · rw [s3] at h2; exact and_more _ _ _ hq.1 hq.2 h2
    rw [granted_mk s1 hb, e']
    refine ⟨s1, s2, ?_⟩
    rcases s3 with s3 | s3
    · rw [s3]; exact and_self _ hq.1 hq.2
    · rw [s3]; exact and_sub _ _ hq.1 hq.2

end Go.Proofs.Ythmombgogmgobaa
