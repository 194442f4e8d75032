/-
  Who is below whom, told by places in the list. No program, no statement.
-/
import Derived.Test.YtiabloiglmnfpaaCdtLaw
namespace Go.Proofs.Ytiabloiglmnfpaa
open Go.RowKit

/-- The j-th is below the i-th. -/
def Bl (F : List En) (i j : Nat) : Prop := i < j ∧ ∀ x, F[i]? = some x → ∀ m y, i < m → m ≤ j → F[m]? = some y → x.d < y.d

theorem run_no {d : Int} {F : List En} (h : Steps (d - 1) F) : runF d F = [] ∧ restF d F = F := by
  cases F with
  | nil => exact ⟨rfl, rfl⟩
  | cons x F =>
    have : ¬ d < x.d := by have := h.2.1; omega
    exact ⟨by rw [runF, if_neg this], by rw [restF, if_neg this]⟩
theorem Steps.backOf : ∀ {A C : List En} {e : En} {d : Int}, Steps d (A ++ e :: C) → Steps e.d C
  | [], _, _, _, h => h.2.2
  | _ :: _, _, _, _, h => Steps.backOf h.2.2

theorem run_at {d : Int} : ∀ {G : List En} {m : Nat} {y : En}, G[m]? = some y → ((runF d G)[m]? = some y ↔ ∀ m' z, m' ≤ m → G[m']? = some z → d < z.d)
  | [], _, _, h => by simp at h
  | g :: G, 0, y, h => by
    simp at h
    subst h
    unfold runF
    constructor
    · intro hh m' z hm hz
      obtain rfl : m' = 0 := by omega
      simp at hz
      subst hz
      split at hh
      · assumption
      · simp at hh
    · intro hh
      rw [if_pos (hh 0 g (by omega) (by simp))]
      simp
  | g :: G, m + 1, y, h => by
    have h' : G[m]? = some y := by simpa using h
    unfold runF
    by_cases hg : d < g.d
    · rw [if_pos hg]
      have ih := run_at (d := d) h'
      simp only [List.getElem?_cons_succ]
      rw [ih]
      constructor
      · intro hh m' z hm hz
        match m', hz with
        | 0, hz => simp at hz; subst hz; exact hg
        | m' + 1, hz => exact hh m' z (by omega) (by simpa using hz)
      · intro hh m' z hm hz
        exact hh (m' + 1) z (by omega) (by simpa using hz)
    · rw [if_neg hg]
      constructor
      · intro hh; simp at hh
      · intro hh
        exact absurd (hh 0 g (by omega) (by simp)) hg
theorem run_sub {d : Int} : ∀ {G : List En} {m : Nat} {y : En}, (runF d G)[m]? = some y → G[m]? = some y
  | [], _, _, h => by simp [runF] at h
  | g :: G, m, y, h => by
    unfold runF at h
    split at h
    · match m, h with
      | 0, h => simpa using h
      | m + 1, h => simpa using run_sub (by simpa using h)
    · simp at h

theorem nodup_idx {F : List En} (hn : (F.map (·.a)).Nodup) {i j : Nat} {x y : En} (hi : F[i]? = some x) (hj : F[j]? = some y) (h : x.a = y.a) : i = j := by
  have hil : i < F.length := by
    rcases Nat.lt_or_ge i F.length with h | h
    · exact h
    · rw [List.getElem?_eq_none h] at hi; cases hi
  exact (List.getElem?_inj (l := F.map (·.a)) (by simpa using hil) hn).1 (by simp [hi, hj, h])

theorem bel_bl {F : List En} (hn : (F.map (·.a)).Nodup) {i j : Nat} {x y : En} (hi : F[i]? = some x) (hj : F[j]? = some y) : belF x.a y.a F = true ↔ Bl F i j := by
  have hil : i < F.length := by
    rcases Nat.lt_or_ge i F.length with h | h
    · exact h
    · rw [List.getElem?_eq_none h] at hi; cases hi
  have hx : F[i] = x := by rw [List.getElem?_eq_getElem hil] at hi; exact Option.some.inj hi
  have hF : F = F.take i ++ x :: F.drop (i + 1) := by
    conv => lhs; rw [← List.take_append_drop i F, List.drop_eq_getElem_cons hil, hx]
  have hA : hasF (F.take i) x.a = false := by
    cases q : hasF (F.take i) x.a with
    | false => rfl
    | true =>
      obtain ⟨z, hz, hza⟩ := has_iff.1 q
      obtain ⟨m, hm⟩ := List.mem_iff_getElem?.1 hz
      rw [List.getElem?_take] at hm
      split at hm
      · have := nodup_idx hn hm hi hza; omega
      · cases hm
  have hC : ∀ m, (F.drop (i + 1))[m]? = F[i + 1 + m]? := fun m => by rw [List.getElem?_drop]
  have hd : desF x.a F = (runF x.d (F.drop (i + 1))).map (·.a) := by
    have := des_at (C := F.drop (i + 1)) hA
    rwa [← hF] at this
  unfold belF
  rw [decide_eq_true_iff, hd]
  constructor
  · intro hm
    obtain ⟨z, hz, hza⟩ := List.mem_map.1 hm
    obtain ⟨m, hm'⟩ := List.mem_iff_getElem?.1 hz
    have h1 := run_sub hm'
    have h2 := (run_at h1).1 hm'
    rw [hC] at h1
    have hjm := nodup_idx hn h1 hj hza
    refine ⟨by omega, fun x' hx' m' y' h3 h4 h5 => ?_⟩
    obtain rfl : x = x' := Option.some.inj (hi.symm.trans hx')
    exact h2 (m' - (i + 1)) y' (by omega) (by rw [hC, show i + 1 + (m' - (i + 1)) = m' by omega]; exact h5)
  · rintro ⟨h1, h2⟩
    have h3 : (F.drop (i + 1))[j - (i + 1)]? = some y := by rw [hC, show i + 1 + (j - (i + 1)) = j by omega]; exact hj
    have h4 := (run_at (d := x.d) h3).2 (fun m' z hm hz => by
      rw [hC] at hz
      exact h2 x hi _ z (by omega) (by omega) hz)
    exact List.mem_map.2 ⟨y, List.mem_iff_getElem?.2 ⟨_, h4⟩, rfl⟩

theorem kid_form {F : List En} {p a : Rf} (hp : hasF F p = true) (ha : hasF F a = false) : ∃ A e C, F = A ++ e :: C ∧ e.a = p ∧ hasF A p = false ∧ kidS F p a = A ++ e :: ⟨a, e.d + 1⟩ :: C := by
  obtain ⟨A, e, C, hF, rfl, hA⟩ := has_split hp
  refine ⟨A, e, C, hF, rfl, hA, ?_⟩
  have hS : kidS F e.a a = kidF e.a a F := by simp [kidS, hp, ha]
  rw [hS, hF, kid_at hA]

theorem kid_bel {F : List En} (wf : Wf F) {p a : Rf} (hp : hasF F p = true) (ha : hasF F a = false) (wf' : Wf (kidS F p a)) {i : Nat} {x : En} (hi : F[i]? = some x) :
    belF x.a a (kidS F p a) = (belF x.a p F || decide (x.a = p)) := by
  obtain ⟨A, e, C, hF, rfl, hA, hS⟩ := kid_form hp ha
  rw [hS] at wf' ⊢
  have hpF : F[A.length]? = some e := by rw [hF]; simp
  have hpF' : (A ++ e :: (⟨a, e.d + 1⟩ : En) :: C)[A.length + 1]? = some ⟨a, e.d + 1⟩ := by simp
  have hlo : ∀ m, m ≤ A.length → (A ++ e :: (⟨a, e.d + 1⟩ : En) :: C)[m]? = F[m]? := fun m hm => by
    rw [hF]
    rcases Nat.lt_or_ge m A.length with h | h
    · rw [List.getElem?_append_left h, List.getElem?_append_left h]
    · obtain rfl : m = A.length := by omega
      simp
  have hhi : ∀ m, A.length < m → (A ++ e :: (⟨a, e.d + 1⟩ : En) :: C)[m + 1]? = F[m]? := fun m hm => by
    rw [hF, List.getElem?_append_right (by omega), List.getElem?_append_right (by omega)]
    rw [show m + 1 - A.length = (m - A.length - 1) + 1 + 1 by omega, show m - A.length = (m - A.length - 1) + 1 by omega]
    simp
  have h1 := bel_bl wf.nd hi hpF
  have hxp : x.a = e.a ↔ i = A.length := ⟨fun h => nodup_idx wf.nd hi hpF h, fun h => by subst h; rw [Option.some.inj (hi.symm.trans hpF)]⟩
  rw [Bool.eq_iff_iff, Bool.or_eq_true, h1, decide_eq_true_iff, hxp]
  by_cases hip : i ≤ A.length
  · have h2 := bel_bl wf'.nd ((hlo i hip).trans hi) hpF'
    rw [h2]
    constructor
    · rintro ⟨_, h3⟩
      by_cases hie : i = A.length
      · exact Or.inr hie
      · refine Or.inl ⟨by omega, fun x' hx' m y hm1 hm2 hy => ?_⟩
        exact h3 x' ((hlo i hip).trans hx') m y hm1 (by omega) ((hlo m hm2).trans hy)
    · intro h3
      refine ⟨by omega, fun x' hx' m y hm1 hm2 hy => ?_⟩
      rw [hlo i hip] at hx'
      by_cases hma : m = A.length + 1
      · subst hma
        obtain rfl := Option.some.inj (hpF'.symm.trans hy)
        show x'.d < e.d + 1
        rcases h3 with h3 | h3
        · have := h3.2 x' hx' A.length e h3.1 (Nat.le_refl _) hpF
          omega
        · subst h3
          rw [Option.some.inj (hx'.symm.trans hpF)]
          omega
      · rw [hlo m (by omega)] at hy
        rcases h3 with h3 | h3
        · exact h3.2 x' hx' m y hm1 (by omega) hy
        · omega
  · have h2 := bel_bl wf'.nd ((hhi i (by omega)).trans hi) hpF'
    rw [h2]
    constructor
    · rintro ⟨h3, _⟩; omega
    · rintro (h3 | h3)
      · have := h3.1; omega
      · omega

theorem kid_fir {F : List En} (wf : Wf F) {p a : Rf} (hp : hasF F p = true) (ha : hasF F a = false) : firF p (kidS F p a) = (a, true) ∧ desF a (kidS F p a) = [] := by
  obtain ⟨A, e, C, hF, rfl, hA, hS⟩ := kid_form hp ha
  rw [hS]
  constructor
  · have : desF e.a (A ++ e :: (⟨a, e.d + 1⟩ : En) :: C) = a :: (runF e.d C).map (·.a) := by
      rw [des_at hA]
      simp [runF, show e.d < e.d + 1 by omega]
    simp [firF, this]
  · have hn : hasF (A ++ [e]) a = false := by
      cases q : hasF (A ++ [e]) a with
      | false => rfl
      | true =>
        obtain ⟨x, hx, hxa⟩ := has_iff.1 q
        refine absurd hxa (has_not ha x ?_)
        rw [hF]
        simp only [List.mem_append, List.mem_cons] at hx ⊢
        rcases hx with hx | hx | hx
        · exact Or.inl hx
        · exact Or.inr (Or.inl hx)
        · cases hx
    have hst : Steps e.d C := (hF ▸ wf.st : Steps (-1) (A ++ e :: C)).backOf
    have hre : A ++ e :: ⟨a, e.d + 1⟩ :: C = (A ++ [e]) ++ (⟨a, e.d + 1⟩ : En) :: C := by simp
    rw [hre]
    have := des_at (e := (⟨a, e.d + 1⟩ : En)) (C := C) hn
    rw [this]
    obtain ⟨r1, r2⟩ := run_no (d := e.d + 1) (F := C) (by rw [show e.d + 1 - 1 = e.d by omega]; exact hst)
    show (runF (e.d + 1) C).map (·.a) = []
    rw [r1]
    rfl

end Go.Proofs.Ytiabloiglmnfpaa
