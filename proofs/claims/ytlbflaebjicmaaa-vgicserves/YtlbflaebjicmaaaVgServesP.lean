/-
  Interrupts that were injected, and are served one behind the other: the plain side of VgicServes. No statement is proved here.
-/
import Derived.Test.YtlbflaebjicmaaaVgArr
namespace Go.Proofs.Ytlbflaebjicmaaa
open Go.RowKit

theorem cnt_pos {f : Nat → Option (Int × Bool)} {n : Nat} (h : 0 < cnt f n) : ∃ j, j < n ∧ (f j).isSome = true := by
  induction n with
  | zero => simp [cnt] at h
  | succ k ih =>
    cases hp : (f k).isSome with
    | true => exact ⟨k, by omega, hp⟩
    | false =>
      simp only [cnt, hp] at h
      obtain ⟨j, hj, h'⟩ := ih (by simpa using h)
      exact ⟨j, by omega, h'⟩
theorem cnt_zero {f : Nat → Option (Int × Bool)} {n : Nat} (h : cnt f n = 0) : ∀ j, j < n → (f j).isSome = false := by
  induction n with
  | zero => intro j hj; omega
  | succ k ih =>
    intro j hj
    simp only [cnt] at h
    by_cases e : j = k
    · subst e
      cases hp : (f j).isSome with
      | false => rfl
      | true => rw [hp] at h; simp at h
    · exact ih (by omega) j (by omega)
theorem cnt_all {f : Nat → Option (Int × Bool)} {n : Nat} (h : ∀ j, j < n → (f j).isSome = true) : cnt f n = n := by
  induction n with
  | zero => rfl
  | succ k ih => simp only [cnt]; rw [ih (fun j hj => h j (by omega)), h k (by omega)]; simp

/-- So many of the first n are left, with these priorities and flags, all of them behind what was served last (-1: none was). -/
structure Left (S : Vg) (n c : Nat) (P : Nat → Int) (F : Nat → Bool) (last : Int) : Prop where
  pe : ∀ j, S.pe j = none ∨ (j < n ∧ S.pe j = some (P j, F j))
  ac : ∀ j, S.ac j = none
  off : ∀ j, S.off j = false
  mask : S.mask = 256
  cnt : Go.Proofs.Ytlbflaebjicmaaa.cnt S.pe n = c
  bnd : ∀ j, j < n → 0 ≤ P j ∧ P j ≤ 255
  behind : ∀ j, (S.pe j).isSome = true → last = -1 ∨ (0 ≤ last ∧ (P last.toNat < P j ∨ (P last.toNat = P j ∧ last < (j : Int))))

theorem left_zero (lrs : Int) (P : Nat → Int) (F : Nat → Bool) : Left (zeroV lrs) 0 0 P F (-1) := ⟨fun _ => Or.inl rfl, fun _ => rfl, fun _ => rfl, rfl, rfl, fun j hj => by omega, fun j hj => by simp [zeroV] at hj⟩

theorem Left.inj {S : Vg} {n : Nat} {P : Nat → Int} {F : Nat → Bool} (h : Left S n n P F (-1)) (hn : n < 64) (x : Int) (hx : 0 ≤ x ∧ x ≤ 255) (l : Bool) : injE S n x = 0 ∧ Left (injS S n x l) (n + 1) (n + 1) (updI P n x) (setB F n l) (-1) := by
  have hi := isI_of hn
  have hp : isP x = true := isP_iff.mpr hx
  have hno : S.pe n = none := by
    rcases h.pe n with e | ⟨e, _⟩
    · exact e
    · omega
  have e : (S.pe ((n : Int)).toNat).isSome = false := by rw [show ((n : Int)).toNat = n by simp, hno]; rfl
  have hall : ∀ j, j < n → S.pe j = some (P j, F j) := fun j hj => by
    rcases h.pe j with e | ⟨_, e⟩
    · have h1 : ∀ m, m ≤ n → m ≤ Go.Proofs.Ytlbflaebjicmaaa.cnt S.pe m → ∀ i, i < m → (S.pe i).isSome = true := fun m => by
        induction m with
        | zero => intro _ _ i hi; omega
        | succ m ih =>
          intro hm hc i hi
          simp only [Go.Proofs.Ytlbflaebjicmaaa.cnt] at hc
          have hle := cnt_le S.pe m
          cases hs : (S.pe m).isSome with
          | false => rw [hs] at hc; simp at hc; omega
          | true =>
            rw [hs] at hc
            by_cases ei : i = m
            · rw [ei]; exact hs
            · exact ih (by omega) (by simp at hc; omega) i (by omega)
      have := h1 n (Nat.le_refl _) (by rw [h.cnt]; exact Nat.le_refl _) j hj
      rw [e] at this
      cases this
    · exact e
  unfold injE injS
  rw [hi, hp, e]
  refine ⟨rfl, ?_⟩
  have hset : ∀ j, set1 S.pe ((n : Int)).toNat (some (x, l)) j = if j < n + 1 then some (updI P n x j, setB F n l j) else none := fun j => by
    rw [show ((n : Int)).toNat = n by simp]
    by_cases ej : j = n
    · subst ej; rw [set1_same, updI_same, setB_same]; simp
    · rw [set1_other _ _ ej, updI_other _ _ ej, setB_other _ _ ej]
      by_cases hj : j < n
      · rw [hall j hj, if_pos (by omega)]
      · rw [if_neg (by omega)]
        rcases h.pe j with e | ⟨e, _⟩
        · exact e
        · omega
  refine ⟨fun j => ?_, h.ac, h.off, h.mask, ?_, fun j hj => ?_, fun _ _ => Or.inl rfl⟩
  · show set1 S.pe _ _ j = none ∨ (j < n + 1 ∧ set1 S.pe _ _ j = _)
    rw [hset]
    by_cases hj : j < n + 1
    · rw [if_pos hj]; exact Or.inr ⟨hj, rfl⟩
    · rw [if_neg hj]; exact Or.inl rfl
  · exact cnt_all (fun j hj => by show (set1 S.pe _ _ j).isSome = true; rw [hset, if_pos hj]; rfl)
  · by_cases ej : j = n
    · subst ej; rw [updI_same]; exact hx
    · rw [updI_other _ _ ej]; exact h.bnd j (by omega)

theorem Left.run {S : Vg} {n c : Nat} {P : Nat → Int} {F : Nat → Bool} {last : Int} (h : Left S n c P F last) : Go.Proofs.Ytlbflaebjicmaaa.run S = 256 := by
  rcases runN_is S 64 with e | ⟨j, q, m, hj, hq, _⟩
  · exact e
  · rw [h.ac] at hq; cases hq

theorem Left.done {S : Vg} {n : Nat} {P : Nat → Int} {F : Nat → Bool} {last : Int} (h : Left S n 0 P F last) : ackA S = 1023 ∧ ackS S = S := by
  have hn : nextO S = none := by
    cases hq : nextO S with
    | none => rfl
    | some q =>
      obtain ⟨p, l, hp, _⟩ := next_some hq
      rcases h.pe q with e | ⟨hqn, e⟩
      · rw [e] at hp; cases hp
      · have := cnt_zero h.cnt q hqn
        rw [hp] at this
        cases this
  unfold ackA ackS
  rw [hn]
  exact ⟨rfl, rfl⟩

theorem Left.more {S : Vg} {n c : Nat} {P : Nat → Int} {F : Nat → Bool} {last : Int} (h : Left S n (c + 1) P F last) (hn : n ≤ 64) :
    ∃ q, q < n ∧ ackA S = (q : Int) ∧ (last = -1 ∨ (0 ≤ last ∧ (P last.toNat < P q ∨ (P last.toNat = P q ∧ last < (q : Int))))) ∧ endF (ackS S) q = F q ∧ endE (ackS S) q = 0 ∧ Left (endS (ackS S) q) n c P F q := by
  have hex : ∃ q, nextO S = some q := by
    cases hq : nextO S with
    | some q => exact ⟨q, rfl⟩
    | none =>
      obtain ⟨j, hj, hp⟩ := cnt_pos (f := S.pe) (n := n) (by rw [h.cnt]; omega)
      rcases h.pe j with e | ⟨_, e⟩
      · rw [e] at hp; cases hp
      · have hc : cand S j = some (P j) := cand_is.mpr ⟨⟨F j, e⟩, h.ac j, h.off j⟩
        have := next_none hq j (P j) (by omega) hc
        have := h.bnd j hj
        rw [h.mask, h.run] at *
        omega
  obtain ⟨q, hq⟩ := hex
  obtain ⟨p, l, hp, hac, hoff, _, _, hleast⟩ := next_some hq
  obtain ⟨hqn, hpe⟩ : q < n ∧ S.pe q = some (P q, F q) := by
    rcases h.pe q with e | e
    · rw [e] at hp; cases hp
    · exact e
  have hPq : p = P q := by rw [hpe] at hp; cases hp; rfl
  subst hPq
  have hi := isI_of (show q < 64 by omega)
  have eA : ackS S = { S with pe := set1 S.pe q none, ac := set1 S.ac q (S.pe q), ack := inc S.ack } := by unfold ackS; rw [hq]
  have eac : (ackS S).ac q = some (P q, F q) := by rw [eA]; show set1 S.ac q (S.pe q) q = _; rw [set1_same, hpe]
  refine ⟨q, hqn, by unfold ackA; rw [hq], h.behind q (by rw [hpe]; rfl), ?_, ?_, ?_⟩
  · unfold endF; rw [hi, show ((q : Int)).toNat = q by simp, eac]; rfl
  · unfold endE; rw [hi, show ((q : Int)).toNat = q by simp, eac]; rfl
  · have eE : endS (ackS S) q = { ackS S with ac := set1 (ackS S).ac q none, en := inc (ackS S).en } := by
      unfold endS; rw [hi, show ((q : Int)).toNat = q by simp, eac]; rfl
    rw [eE, eA]
    refine ⟨fun j => ?_, fun j => ?_, h.off, h.mask, ?_, h.bnd, fun j hj => ?_⟩
    · show set1 S.pe q none j = none ∨ (j < n ∧ set1 S.pe q none j = _)
      by_cases ej : j = q
      · subst ej; rw [set1_same]; exact Or.inl rfl
      · rw [set1_other _ _ ej]; exact h.pe j
    · show set1 (set1 S.ac q (S.pe q)) q none j = _
      by_cases ej : j = q
      · subst ej; rw [set1_same]
      · rw [set1_other _ _ ej, set1_other _ _ ej]; exact h.ac j
    · have := cnt_set S.pe q none n
      have h1 := h.cnt
      rw [hpe] at this
      simp [hqn] at this
      show Go.Proofs.Ytlbflaebjicmaaa.cnt (set1 S.pe q none) n = c
      omega
    · have hj' : (set1 S.pe q none j).isSome = true := hj
      by_cases ej : j = q
      · subst ej; rw [set1_same] at hj'; cases hj'
      · rw [set1_other _ _ ej] at hj'
        rcases h.pe j with e | ⟨hjn, e⟩
        · rw [e] at hj'; cases hj'
        · have hc : cand S j = some (P j) := cand_is.mpr ⟨⟨F j, e⟩, h.ac j, h.off j⟩
          refine Or.inr ⟨by omega, ?_⟩
          have := hleast j (P j) (by omega) hc
          rw [show ((q : Int)).toNat = q by simp]
          omega

end Go.Proofs.Ytlbflaebjicmaaa
