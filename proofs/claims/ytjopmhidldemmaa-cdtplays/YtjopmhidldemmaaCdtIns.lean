/-
  The contract of package cdt's insert over the translation. No statement is proved here.
-/
import Derived.Test.YtjopmhidldemmaaCdtSmall
namespace Go.Proofs.Ytjopmhidldemmaa
open Go.RowKit Go.Maps Go.WideMaps

theorem wrap_succ {d : Int} (h1 : -1 ≤ d) (h2 : d ≤ 2000) : IntKind.i64.wrap (d + 1) = d + 1 := by
  simp [IntKind.wrap, IntKind.bits, IntKind.signed]
  omega

theorem nd_parts {A C : List Pl} {x : Pl} (h : ((A ++ x :: C).map (·.b)).Nodup) : (∀ y ∈ A, y.b ≠ x.b) ∧ (∀ y ∈ C, y.b ≠ x.b) ∧ (∀ y ∈ A, ∀ z ∈ C, y.b ≠ z.b) ∧ (A.map (·.b)).Nodup ∧ (C.map (·.b)).Nodup := by
  simp only [List.map_append, List.map_cons, List.nodup_append, List.nodup_cons, List.mem_map, List.mem_cons] at h
  obtain ⟨h1, ⟨h2, h3⟩, h4⟩ := h
  refine ⟨fun y hy e => h4 _ ⟨y, hy, rfl⟩ _ (Or.inl rfl) e, fun y hy e => h2 ⟨y, hy, e⟩, fun y hy z hz e => h4 _ ⟨y, hy, rfl⟩ _ (Or.inr ⟨z, hz, rfl⟩) e, h1, h3⟩
theorem nd_ins {A C : List Pl} {x y : Pl} (h : ((A ++ x :: C).map (·.b)).Nodup) (hy : ∀ z ∈ A ++ x :: C, z.b ≠ y.b) : ((A ++ x :: y :: C).map (·.b)).Nodup := by
  have hp : ((A ++ x :: y :: C).map (·.b)).Perm (y.b :: (A ++ x :: C).map (·.b)) := by
    simp only [List.map_append, List.map_cons]
    have h1 : ((x.b :: y.b :: C.map (·.b))).Perm (y.b :: x.b :: C.map (·.b)) := List.Perm.swap _ _ _
    exact (h1.append_left _).trans List.perm_middle
  rw [hp.nodup_iff, List.nodup_cons]
  exact ⟨fun hh => by obtain ⟨z, hz, e⟩ := List.mem_map.1 hh; exact hy z hz e, h⟩

theorem ins_cons {v : World} {A C : List Pl} {x c y : Pl} (h : Ch v none (A ++ x :: c :: C) none) (hy : Row v y.b (plC y.e (ad x.b) (ad c.b)) 47) (nd : ((A ++ x :: c :: C).map (·.b)).Nodup) (ny : ∀ z ∈ A ++ x :: c :: C, z.b ≠ y.b) :
    Ch ((v.setCell ⟨c.b, 3, none⟩ (pv y.b)).setCell ⟨x.b, 4, none⟩ (pv y.b)) none (A ++ x :: y :: c :: C) none := by
  obtain ⟨n1, n2, n3, _, n5⟩ := nd_parts nd
  obtain ⟨hA, hx, hC⟩ := h.at'
  have nc : ∀ z ∈ C, z.b ≠ c.b := fun z hz e => by
    have := (List.nodup_cons.1 n5).1
    exact this (List.mem_map.2 ⟨z, hz, e⟩)
  have f1 := fr_set v c.b 3 (pv y.b) (Fr.refl _ _)
  have f2 := fr_set (v.setCell ⟨c.b, 3, none⟩ (pv y.b)) x.b 4 (pv y.b) (Fr.refl _ _)
  have hC1 := hC.head nc (ad y.b)
  have hA1 := hA.keep f1 (fun z hz e => n3 z hz c (by simp) e)
  have hx1 := hx.keep f1 (fun e => n2 c (by simp) (e : x.b = c.b).symm)
  have hy1 := hy.keep f1 (fun e => ny c (by simp) (e : y.b = c.b).symm)
  have hC2 := hC1.keep f2 (fun z hz e => n2 z hz e)
  have hA2 := hA1.keep f2 (fun z hz e => n1 z hz e)
  have hy2 := hy1.keep f2 (fun e => ny x (by simp) (e : y.b = x.b).symm)
  have hx2 := hx1.setCell 4 (pv y.b)
  refine ch_join hA2 ?_ ⟨hy2, hC2⟩
  simpa [plC, hd] using hx2
theorem ins_nil {v : World} {A : List Pl} {x y : Pl} (h : Ch v none (A ++ [x]) none) (hy : Row v y.b (plC y.e (ad x.b) none) 47) (nd : ((A ++ [x]).map (·.b)).Nodup) (ny : ∀ z ∈ A ++ [x], z.b ≠ y.b) :
    Ch (v.setCell ⟨x.b, 4, none⟩ (pv y.b)) none (A ++ [x, y]) none := by
  obtain ⟨n1, _, _, _, _⟩ := nd_parts nd
  obtain ⟨hA, hx, _⟩ := h.at'
  have f2 := fr_set v x.b 4 (pv y.b) (Fr.refl _ _)
  have hA2 := hA.keep f2 (fun z hz e => n1 z hz e)
  have hy2 := hy.keep f2 (fun e => ny x (by simp) (e : y.b = x.b).symm)
  have hx2 := hx.setCell 4 (pv y.b)
  refine ch_join (C := [y]) hA2 ?_ ⟨hy2, trivial⟩
  simpa [plC, hd] using hx2

/-- A forest behind an insertion, out of its parts. -/
theorem ins_done {w W w' : World} {t : Nat} {T : Tr} {A C : List Pl} {x y : Pl} (h : IsT w t T) (hX : T.X = A ++ x :: C) (hy : w.heap.size ≤ y.b) (hn : hasF T.F y.e.a = false) (hnd : (T.F.map (·.a)).Nodup)
    (hF : Fr (T.s t) w W) (hrow : Row W t #[pv T.tb, .map (some T.m)] 50) (hch : Ch W none (A ++ x :: y :: C) none) (hM : MP w' T.m (T.Y.length + 1) (fun b => if b = y.e.a then some y.b else mapF T.Y b)) (hFm : Fr (at' T.m) W w') :
    ∃ T' y', T'.X = A ++ x :: y' :: C ∧ y'.e = y.e ∧ ChgT w t T w' T' := by
  obtain ⟨Y', hY'⟩ : ∃ Y', A ++ x :: y :: C = ⟨T.tb, top0⟩ :: Y' ∧ ∀ z, z ∈ Y' ↔ z = y ∨ z ∈ T.Y := by
    cases A with
    | nil =>
      simp only [List.nil_append] at hX ⊢
      have e := hX
      unfold Tr.X at e
      simp only [List.cons.injEq] at e
      obtain ⟨rfl, e2⟩ := e
      exact ⟨y :: C, rfl, fun z => by rw [e2]; simp⟩
    | cons a0 A =>
      have e := hX
      unfold Tr.X at e
      simp only [List.cons_append, List.cons.injEq] at e
      obtain ⟨rfl, e2⟩ := e
      refine ⟨A ++ x :: y :: C, rfl, fun z => by rw [e2]; simp; constructor <;> (intro h; rcases h with h | h | h | h <;> simp [h])⟩
  obtain ⟨eX, hmem⟩ := hY'
  have ny : ∀ z ∈ A ++ x :: C, z.b ≠ y.b := fun z hz => by
    rw [← hX] at hz
    have := h.ch.lt z hz
    omega
  have nd' := nd_ins (by have := h.nd; rwa [hX] at this) ny
  have hlen : Y'.length = T.Y.length + 1 := by
    have e1 := congrArg List.length eX
    have e2 := congrArg List.length hX
    simp [Tr.X] at e1 e2
    omega
  refine ⟨⟨T.m, T.tb, Y'⟩, y, eX.symm, rfl, ⟨?_, ?_, ?_, ?_, ?_⟩, ?_, ?_⟩
  · exact hrow.keep hFm (fun e => h.tm e)
  · show MP w' T.m Y'.length (mapF Y')
    rw [hlen]
    refine hM.congr (mapF_eq ?_ ?_)
    · have hp : (Y'.map (·.e.a)).Perm (y.e.a :: T.Y.map (·.e.a)) := by
        have hp0 : (A ++ x :: y :: C).Perm (y :: (A ++ x :: C)) := by
          have h1 : (x :: y :: C).Perm (y :: x :: C) := List.Perm.swap _ _ _
          exact (h1.append_left _).trans List.perm_middle
        rw [eX, ← hX] at hp0
        have hp1 : (⟨T.tb, top0⟩ :: Y').Perm (⟨T.tb, top0⟩ :: y :: T.Y) := hp0.trans (List.Perm.swap _ _ _)
        exact (List.perm_cons _ |>.1 hp1).map _
      rw [hp.nodup_iff, List.nodup_cons]
      refine ⟨fun hh => ?_, by rw [← names_F]; exact hnd⟩
      obtain ⟨z, hz, e⟩ := List.mem_map.1 hh
      exact has_not hn z.e (List.mem_map.2 ⟨z, hz, rfl⟩) e
    · intro a g
      have hm := mapF_iff (Y := T.Y) (by rw [← names_F]; exact hnd) a g
      by_cases e : a = y.e.a
      · rw [if_pos e]
        constructor
        · intro hg; cases hg; exact ⟨y, (hmem y).2 (Or.inl rfl), e.symm, rfl⟩
        · rintro ⟨z, hz, hza, rfl⟩
          rcases (hmem z).1 hz with rfl | hz
          · rfl
          · exact absurd (hza.trans e) (has_not hn z.e (List.mem_map.2 ⟨z, hz, rfl⟩))
      · rw [if_neg e, hm]
        constructor
        · rintro ⟨z, hz, r⟩; exact ⟨z, (hmem z).2 (Or.inr hz), r⟩
        · rintro ⟨z, hz, hza, r⟩
          rcases (hmem z).1 hz with rfl | hz
          · exact absurd hza.symm e
          · exact ⟨z, hz, hza, r⟩
  · show Ch w' none (⟨T.tb, top0⟩ :: Y') none
    rw [← eX]
    refine hch.keep hFm (fun z hz e => ?_)
    have e' : z.b = T.m := e
    rcases List.mem_append.1 hz with hz | hz
    · exact h.mx z (by rw [hX]; simp [hz]) e'
    · simp only [List.mem_cons] at hz
      rcases hz with rfl | rfl | hz
      · exact h.mx z (by rw [hX]; simp) e'
      · have := h.map.lt; omega
      · exact h.mx z (by rw [hX]; simp [hz]) e'
  · show ((⟨T.tb, top0⟩ :: Y' : List Pl).map (·.b)).Nodup
    rw [← eX]
    exact nd'
  · intro z hz
    have hz' : z ∈ A ++ x :: y :: C := by rw [eX]; exact hz
    rcases List.mem_append.1 hz' with hz | hz
    · exact h.nt z (by rw [hX]; simp [hz])
    · simp only [List.mem_cons] at hz
      rcases hz with rfl | rfl | hz
      · exact h.nt z (by rw [hX]; simp)
      · have := h.row.lt; omega
      · exact h.nt z (by rw [hX]; simp [hz])
  · exact hF.trans (hFm.mono (fun k _ e => Or.inr (Or.inl e)))
  · rintro k (rfl | rfl | ⟨z, hz, rfl⟩)
    · exact Or.inl (Or.inl rfl)
    · exact Or.inl (Or.inr (Or.inl rfl))
    · have hz' : z ∈ A ++ x :: y :: C := by rw [eX]; exact hz
      rcases List.mem_append.1 hz' with hz | hz
      · exact Or.inl (Or.inr (Or.inr ⟨z, by rw [hX]; simp [hz], rfl⟩))
      · simp only [List.mem_cons] at hz
        rcases hz with rfl | rfl | hz
        · exact Or.inl (Or.inr (Or.inr ⟨z, by rw [hX]; simp, rfl⟩))
        · exact Or.inr hy
        · exact Or.inl (Or.inr (Or.inr ⟨z, by rw [hX]; simp [hz], rfl⟩))

end Go.Proofs.Ytjopmhidldemmaa
