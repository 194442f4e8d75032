/-
  How many a name is below, and its parent, over plain lists. No program, no statement.
-/
import Derived.Test.YtiabloiglmnfpaaCdtBl
namespace Go.Proofs.Ytiabloiglmnfpaa
open Go.RowKit

theorem nod_has {A C : List En} {e : En} (h : ((A ++ e :: C).map (·.a)).Nodup) : hasF A e.a = false := by
  cases q : hasF A e.a with
  | false => rfl
  | true =>
    obtain ⟨z, hz, hza⟩ := has_iff.1 q
    rw [List.map_append, List.nodup_append] at h
    exact absurd hza (h.2.2 z.a (List.mem_map_of_mem hz) e.a (by simp))

/-- The least depth of a row and one more. -/
def mnF : List En → Int → Int
  | [], d => d
  | y :: A, d => if y.d < mnF A d then y.d else mnF A d
/-- Those that are less deep than all behind them. -/
def cnF : List En → Int → Int
  | [], _ => 0
  | y :: A, d => (if y.d < mnF A d then 1 else 0) + cnF A d

theorem mn_le : ∀ {A : List En} {x : En} {s : Int}, Steps s (A ++ [x]) → mnF A x.d ≤ s + 1
  | [], _, _, h => h.2.1
  | y :: A, x, s, h => by
    have := h.2.1
    unfold mnF
    split <;> omega
theorem mn_ge {m : Int} : ∀ {A : List En} {d : Int}, (∀ y ∈ A, m ≤ y.d) → m ≤ d → m ≤ mnF A d
  | [], _, _, h => h
  | y :: A, d, h, hd => by
    have h1 := h y (by simp)
    have h2 := mn_ge (A := A) (fun z hz => h z (by simp [hz])) hd
    unfold mnF
    split <;> omega
theorem cn_eq : ∀ {A : List En} {x : En} {s : Int}, Steps s (A ++ [x]) → cnF A x.d = x.d - mnF A x.d
  | [], _, _, _ => by simp [cnF, mnF]
  | y :: A, x, s, h => by
    have h1 := mn_le h.2.2
    have h2 := cn_eq h.2.2
    by_cases hh : y.d < mnF A x.d
    · simp only [cnF, mnF, if_pos hh]; omega
    · simp only [cnF, mnF, if_neg hh]; omega

theorem cons_all {d : Int} {y : En} {R : List En} (h : d ≤ y.d) (h2 : ∀ z ∈ R, d ≤ z.d) : ∀ z ∈ y :: R, d ≤ z.d := fun z hz => by
  rcases List.mem_cons.1 hz with rfl | hz
  · exact h
  · exact h2 z hz

theorem run_mn {x : En} {C : List En} {d : Int} : ∀ {A : List En}, (∀ z ∈ A, z.a ≠ x.a) → (x.a ∈ (runF d (A ++ x :: C)).map (·.a) ↔ d < mnF A x.d) ∨ ¬ (∀ z ∈ C, z.a ≠ x.a)
  | [], _ => by
    by_cases hC : ∀ z ∈ C, z.a ≠ x.a
    · refine Or.inl ?_
      simp only [List.nil_append, runF, mnF]
      by_cases h : d < x.d
      · simp [h]
      · simp [h]
    · exact Or.inr hC
  | z :: A, hA => by
    rcases run_mn (x := x) (C := C) (d := d) (A := A) (fun y hy => hA y (by simp [hy])) with ih | ih
    · refine Or.inl ?_
      have hz : x.a ≠ z.a := fun h => hA z (by simp) h.symm
      simp only [List.cons_append, runF, mnF]
      by_cases h : d < z.d
      · rw [if_pos h, List.map_cons, List.mem_cons]
        constructor
        · rintro (h1 | h1)
          · exact absurd h1 hz
          · have := ih.1 h1
            split <;> omega
        · intro h1
          refine Or.inr (ih.2 ?_)
          split at h1 <;> omega
      · rw [if_neg h]
        constructor
        · intro h1; simp at h1
        · intro h1
          split at h1 <;> omega
    · exact Or.inr ih

section
variable {F A C : List En} {x : En}
theorem bel_mn (wf : Wf F) (hF : F = A ++ x :: C) {A1 A2 : List En} {y : En} (hA : A = A1 ++ y :: A2) : belF y.a x.a F = true ↔ y.d < mnF A2 x.d := by
  have hF' : F = A1 ++ y :: (A2 ++ x :: C) := by rw [hF, hA]; simp
  have hn : hasF A1 y.a = false := nod_has (by rw [← hF']; exact wf.nd)
  have hd : desF y.a F = (runF y.d (A2 ++ x :: C)).map (·.a) := by rw [hF']; exact des_at hn
  have hxA : ∀ z ∈ A, z.a ≠ x.a := has_not (nod_has (by rw [← hF]; exact wf.nd))
  have hxC : ∀ z ∈ C, z.a ≠ x.a := fun z hz h => by
    have hw := wf.nd
    rw [hF, List.map_append, List.nodup_append, List.map_cons] at hw
    have := (List.nodup_cons.1 hw.2.1).1
    exact this (by rw [← h]; exact List.mem_map_of_mem hz)
  unfold belF
  rw [decide_eq_true_iff, hd]
  rcases run_mn (x := x) (C := C) (d := y.d) (A := A2) (fun z hz => hxA z (by rw [hA]; simp [hz])) with h | h
  · exact h
  · exact absurd hxC h

theorem cnt_pre (wf : Wf F) (hF : F = A ++ x :: C) : ∀ {A2 A1 : List En}, A = A1 ++ A2 → ((A2.countP fun y => belF y.a x.a F : Nat) : Int) = cnF A2 x.d
  | [], _, _ => by simp [cnF]
  | y :: A2, A1, hA => by
    have ih := cnt_pre wf hF (A2 := A2) (A1 := A1 ++ [y]) (by rw [hA]; simp)
    have h := bel_mn wf hF hA
    rw [List.countP_cons]
    unfold cnF
    by_cases hb : belF y.a x.a F = true
    · rw [if_pos hb, if_pos (h.1 hb), Int.natCast_add, ih]
      omega
    · rw [if_neg hb, if_neg (fun hh => hb (h.2 hh)), Int.natCast_add, ih]
      omega

theorem cnt_all (wf : Wf F) (hF : F = A ++ x :: C) : ((F.countP fun y => belF y.a x.a F : Nat) : Int) = x.d := by
  have h0 : ((x :: C).countP fun y => belF y.a x.a F) = 0 := by
    rw [List.countP_eq_zero]
    intro y hy hb
    obtain ⟨m, hm⟩ := List.mem_iff_getElem?.1 hy
    have hi : F[A.length]? = some x := by rw [hF]; simp
    have hk : F[A.length + m]? = some y := by rw [hF, List.getElem?_append_right (by omega), show A.length + m - A.length = m by omega]; exact hm
    have := ((bel_bl wf.nd hk hi).1 hb).1
    omega
  have h1 := cnt_pre wf hF (A2 := A) (A1 := []) rfl
  have h2 : (F.countP fun y => belF y.a x.a F) = (A.countP fun y => belF y.a x.a F) + ((x :: C).countP fun y => belF y.a x.a F) := by
    conv => lhs; rw [hF]
    rw [List.countP_append, ← hF]
  rw [h2, h0, Nat.add_zero, h1]
  have hst : Steps (-1) (A ++ [x]) := by
    have := wf.st
    rw [hF, show A ++ x :: C = (A ++ [x]) ++ C by simp] at this
    exact this.app
  have h3 := mn_le hst
  have h4 : (0 : Int) ≤ mnF A x.d := mn_ge (fun y hy => hst.ge y (by simp [hy])) (hst.ge x (by simp))
  rw [cn_eq hst]
  omega
end

theorem near_form {d : Int} : ∀ R : List En, (nearF d R = top0 ∧ ∀ y ∈ R, d ≤ y.d) ∨ ∃ R1 r R2, R = R1 ++ r :: R2 ∧ (∀ y ∈ R1, d ≤ y.d) ∧ r.d < d ∧ nearF d R = r
  | [] => Or.inl ⟨rfl, fun _ h => by cases h⟩
  | y :: R => by
    by_cases h : d ≤ y.d
    · rcases near_form (d := d) R with ⟨h1, h2⟩ | ⟨R1, r, R2, h1, h2, h3, h4⟩
      · exact Or.inl ⟨by rw [nearF, if_pos h]; exact h1, cons_all h h2⟩
      · exact Or.inr ⟨y :: R1, r, R2, by rw [h1]; rfl, cons_all h h2, h3, by rw [nearF, if_pos h]; exact h4⟩
    · exact Or.inr ⟨[], y, R, rfl, (fun _ hh => nomatch hh), by omega, by rw [nearF, if_neg h]⟩

theorem par_full {F : List En} (wf : Wf F) {i : Nat} {x : En} (hi : F[i]? = some x) : ∃ p h, parF x.a [] F = (p, h) ∧ p.Ok ∧ h = decide (0 < x.d) ∧ (h = true → belF p x.a F = true ∧ depF p F = x.d - 1) := by
  have hil : i < F.length := by
    rcases Nat.lt_or_ge i F.length with h | h
    · exact h
    · rw [List.getElem?_eq_none h] at hi; cases hi
  have hx : F[i] = x := by rw [List.getElem?_eq_getElem hil] at hi; exact Option.some.inj hi
  have hF : F = F.take i ++ x :: F.drop (i + 1) := by
    conv => lhs; rw [← List.take_append_drop i F, List.drop_eq_getElem_cons hil, hx]
  generalize F.take i = A at hF
  generalize F.drop (i + 1) = C at hF
  have hn : hasF A x.a = false := nod_has (by rw [← hF]; exact wf.nd)
  have hp := par_at (C := C) hn []
  rw [← hF, List.append_nil] at hp
  have hst : Steps (-1) (A ++ x :: C) := by rw [← hF]; exact wf.st
  have hx0 : 0 ≤ x.d := hst.ge x (by simp)
  refine ⟨_, _, hp, ?_⟩
  rcases near_form (d := x.d) A.reverse with ⟨h1, h2⟩ | ⟨R1, r, R2, h1, h2, h3, h4⟩
  · rw [h1]
    refine ⟨⟨⟨by show _ ≤ (0 : Int); omega, by show (0 : Int) ≤ _; omega⟩, ⟨by show _ ≤ (0 : Int); omega, by show (0 : Int) ≤ _; omega⟩⟩, ?_, fun h => ?_⟩
    · have : ¬ 0 < x.d := fun hh => by
        cases A with
        | nil => have := hst.2.1; omega
        | cons y A =>
          have := hst.2.1
          have := h2 y (by simp)
          omega
      simp [top0, this]
    · simp [top0] at h
  · rw [h4]
    have hA : A = R2.reverse ++ r :: R1.reverse := by
      have := congrArg List.reverse h1
      simpa using this
    have hr0 : 0 ≤ r.d := hst.ge r (by rw [hA]; simp)
    have hF' : F = R2.reverse ++ r :: (R1.reverse ++ x :: C) := by rw [hF, hA]; simp
    have hst2 : Steps r.d (R1.reverse ++ x :: C) := by
      have := wf.st
      rw [hF'] at this
      exact this.backOf
    have hrd : x.d ≤ r.d + 1 := by
      cases hR : R1.reverse with
      | nil => rw [hR] at hst2; exact hst2.2.1
      | cons y R =>
        rw [hR] at hst2
        have := hst2.2.1
        have := h2 y (by rw [← List.mem_reverse, hR]; simp)
        omega
    refine ⟨wf.ok r (by rw [hF']; simp), ?_, fun _ => ⟨?_, ?_⟩⟩
    · rw [decide_eq_true hr0, decide_eq_true (show 0 < x.d by omega)]
    · rw [bel_mn wf hF hA]
      have := mn_ge (m := x.d) (A := R1.reverse) (d := x.d) (fun y hy => h2 y (List.mem_reverse.1 hy)) (Int.le_refl _)
      omega
    · have : hasF R2.reverse r.a = false := nod_has (by rw [← hF']; exact wf.nd)
      rw [hF', dep_at this]
      omega

theorem cnt_get {F : List En} (wf : Wf F) {i : Nat} {x : En} (hi : F[i]? = some x) : ((F.countP fun y => belF y.a x.a F : Nat) : Int) = x.d := by
  have hil : i < F.length := by
    rcases Nat.lt_or_ge i F.length with h | h
    · exact h
    · rw [List.getElem?_eq_none h] at hi; cases hi
  have hx : F[i] = x := by rw [List.getElem?_eq_getElem hil] at hi; exact Option.some.inj hi
  have hF : F = F.take i ++ x :: F.drop (i + 1) := by
    conv => lhs; rw [← List.take_append_drop i F, List.drop_eq_getElem_cons hil, hx]
  exact cnt_all wf hF

end Go.Proofs.Ytiabloiglmnfpaa
