/-
  A forest behind a removal, out of its parts. No statement is proved here.
-/
import Derived.Test.YtjopmhidldemmaaCdtRemP
namespace Go.Proofs.Ytjopmhidldemmaa
open Go.RowKit Go.Maps Go.WideMaps

def prP (y : Pl) : Rf × Nat := (y.e.a, y.b)
theorem mem_pr {D : List Pl} {a : Rf} {g : Nat} : (∃ y ∈ D, y.e.a = a ∧ y.b = g) ↔ (a, g) ∈ D.map prP := by
  simp [prP]
theorem decP_pr (k : Nat) (C : List Pl) : (decP k C).map prP = C.map prP := by
  have : (decP k C).map prP = (C.take k).map prP ++ (C.drop k).map prP := by unfold decP; rw [List.map_append, List.map_map]; rfl
  rw [this, ← List.map_append, List.take_append_drop]
theorem names_pr {C D : List Pl} (h : C.map prP = D.map prP) : C.map (·.e.a) = D.map (·.e.a) := by
  have := congrArg (List.map Prod.fst) h
  simpa [prP, Function.comp_def] using this
theorem blocks_pr {C D : List Pl} (h : C.map prP = D.map prP) : C.map (·.b) = D.map (·.b) := by
  have := congrArg (List.map Prod.snd) h
  simpa [prP, Function.comp_def] using this

theorem rem_done {w W w' : World} {t : Nat} {T : Tr} {A C D : List Pl} {x : Pl} (h : IsT w t T) (hY : T.Y = A ++ x :: C) (hnd : (T.F.map (·.a)).Nodup) (hA : hasF (A.map (·.e)) x.e.a = false)
    (hD : D.map prP = C.map prP) (hDe : D.map (·.e) = (runF x.e.d (C.map (·.e))).map up1 ++ restF x.e.d (C.map (·.e)))
    (hF : Fr (T.s t) w W) (hrow : Row W t #[pv T.tb, .map (some T.m)] 50) (hch : Ch W none (⟨T.tb, top0⟩ :: (A ++ D)) none) (hM : MP w' T.m (A ++ D).length (fun b => if b = x.e.a then none else mapF T.Y b)) (hFm : Fr (fun k => k = T.m ∨ w.heap.size ≤ k) W w') :
    ∃ T', T'.F = remF x.e.a T.F ∧ ChgT w t T w' T' := by
  have eb := blocks_pr hD
  have en := names_pr hD
  have hb : ∀ z ∈ A ++ D, ∃ z' ∈ T.X, z'.b = z.b := by
    intro z hz
    rcases List.mem_append.1 hz with hz | hz
    · exact ⟨z, by rw [X_of hY]; simp [hz], rfl⟩
    · have : z.b ∈ C.map (·.b) := by rw [← eb]; exact List.mem_map.2 ⟨z, hz, rfl⟩
      obtain ⟨z', hz', e⟩ := List.mem_map.1 this
      exact ⟨z', by rw [X_of hY]; simp [hz'], e⟩
  have hb' : ∀ z ∈ (⟨T.tb, top0⟩ :: (A ++ D) : List Pl), ∃ z' ∈ T.X, z'.b = z.b := by
    intro z hz
    rcases List.mem_cons.1 hz with rfl | hz
    · exact ⟨_, by simp [Tr.X], rfl⟩
    · exact hb z hz
  refine ⟨⟨T.m, T.tb, A ++ D⟩, ?_, ⟨?_, ?_, ?_, ?_, ?_⟩, ?_, ?_⟩
  · show (A ++ D).map (·.e) = _
    rw [F_at hY, rem_at hA, List.map_append, hDe]
  · exact hrow.keep hFm (fun e => by have := h.row.lt; rcases e with e | e; exact h.tm e; omega)
  · refine hM.congr (mapF_eq ?_ ?_)
    · have hn : (T.Y.map (·.e.a)).Nodup := by rw [← names_F]; exact hnd
      rw [hY] at hn
      rw [List.map_append, en, ← List.map_append]
      exact hn.sublist (List.Sublist.map _ (List.Sublist.append_left (List.sublist_cons_self _ _) _))
    · intro a g
      have hm := mapF_iff (Y := T.Y) (by rw [← names_F]; exact hnd) a g
      have hx : ∀ y ∈ A ++ C, y.e.a ≠ x.e.a := by
        intro y hy e
        have hn : (T.Y.map (·.e.a)).Nodup := by rw [← names_F]; exact hnd
        rw [hY] at hn
        simp only [List.map_append, List.map_cons, List.nodup_append, List.nodup_cons, List.mem_map] at hn
        rcases List.mem_append.1 hy with hy | hy
        · exact has_not hA y.e (List.mem_map.2 ⟨y, hy, rfl⟩) e
        · exact hn.2.1.1 ⟨y, hy, e⟩
      have e1 : (∃ y ∈ A ++ D, y.e.a = a ∧ y.b = g) ↔ ∃ y ∈ A ++ C, y.e.a = a ∧ y.b = g := by
        rw [mem_pr, mem_pr, List.map_append, List.map_append, hD]
      rw [e1]
      by_cases e : a = x.e.a
      · rw [if_pos e]
        constructor
        · intro hh; cases hh
        · rintro ⟨y, hy, hya, _⟩
          exact absurd (hya.trans e) (hx y hy)
      · rw [if_neg e, hm, hY]
        constructor
        · rintro ⟨y, hy, hya, r⟩
          rcases List.mem_append.1 hy with hy | hy
          · exact ⟨y, by simp [hy], hya, r⟩
          · rcases List.mem_cons.1 hy with rfl | hy
            · exact absurd hya.symm e
            · exact ⟨y, by simp [hy], hya, r⟩
        · rintro ⟨y, hy, hya, r⟩
          refine ⟨y, ?_, hya, r⟩
          rcases List.mem_append.1 hy with hy | hy <;> simp [hy]
  · refine hch.keep hFm (fun z hz e => ?_)
    obtain ⟨z', hz', e'⟩ := hb' z hz
    have := h.ch.lt z' hz'
    rcases e with e | e
    · exact h.mx z' hz' (e'.trans e)
    · omega
  · have hn := h.nd
    rw [X_of hY] at hn
    show ((⟨T.tb, top0⟩ :: (A ++ D) : List Pl).map (·.b)).Nodup
    rw [List.map_cons, List.map_append, eb, ← List.map_append, ← List.map_cons]
    refine hn.sublist (List.Sublist.map _ ?_)
    rw [List.cons_append]
    exact List.Sublist.cons_cons _ (List.Sublist.append_left (List.sublist_cons_self _ _) _)
  · intro z hz
    obtain ⟨z', hz', e'⟩ := hb' z hz
    rw [← e']
    exact h.nt z' hz'
  · exact ⟨hFm.os.trans hF.os, hFm.tape.trans hF.tape, hFm.output.trans hF.output, Nat.le_trans hF.size hFm.size, fun k hk hn => (hFm.block k (Nat.lt_of_lt_of_le hk hF.size) (fun e => by rcases e with e | e; exact hn (Or.inr (Or.inl e)); omega)).trans (hF.block k hk hn)⟩
  · rintro k (rfl | rfl | ⟨z, hz, rfl⟩)
    · exact Or.inl (Or.inl rfl)
    · exact Or.inl (Or.inr (Or.inl rfl))
    · obtain ⟨z', hz', e'⟩ := hb' z hz
      exact Or.inl (Or.inr (Or.inr ⟨z', hz', e'.symm⟩))

end Go.Proofs.Ytjopmhidldemmaa
