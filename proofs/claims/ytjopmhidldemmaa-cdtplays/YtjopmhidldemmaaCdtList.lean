/-
  Contracts of package cdt's List and Descendants over the translation. No statement is proved here.
-/
import Derived.Test.YtjopmhidldemmaaCdtNames
namespace Go.Proofs.Ytjopmhidldemmaa
open Go.RowKit Go.Maps Go.WideMaps

theorem runF_all : ∀ {F : List En} {d : Int}, (∀ e ∈ F, d < e.d) → runF d F = F
  | [], _, _ => rfl
  | e :: F, d, h => by
    unfold runF
    rw [if_pos (h e (by simp)), runF_all (fun e' he => h e' (by simp [he]))]
theorem nm_run (d : Int) (C : List Pl) : nmP (runP d C) = (runF d (C.map (·.e))).map (·.a) := by
  rw [← runP_map]; simp [nmP]
theorem nd_tail {T : Tr} {A C : List Pl} {x : Pl} {w : World} {t : Nat} (h : IsT w t T) (hX : T.X = A ++ x :: C) : (C.map (·.b)).Nodup := by
  have := h.nd
  rw [hX] at this
  exact (nd_parts this).2.2.2.2
theorem ch_tail {T : Tr} {A C : List Pl} {x : Pl} {w : World} {t : Nat} (h : IsT w t T) (hX : T.X = A ++ x :: C) : Ch w (lst none A) (x :: C) none := by
  have := h.ch
  rw [hX] at this
  exact (ch_app.1 this).2

set_option maxRecDepth 100000 in
set_option maxHeartbeats 1000000 in
theorem list_any (w : World) (t : Nat) (T : Tr) (h : IsT w t T) (wf : Wf T.F) (hlen : T.Y.length ≤ 1000) :
    Calls Try.prog 7 #[pv t] w fun e w' => ∃ v, e = .returned v ∧ RfS w' w.heap.size v (T.F.map (·.a)) ∧ Fr none' w w' := by
  have c0 := h.c0
  have hX : T.X = [] ++ ⟨T.tb, top0⟩ :: T.Y := rfl
  have hn := names_any w _ _ _ (ch_tail h hX) (nd_tail h hX) hlen
  have e1 : nmP (runP top0.d T.Y) = T.F.map (·.a) := by
    rw [nm_run, runF_all (fun e he => by have := wf.st.ge e he; simp [top0]; omega)]
    rfl
  rw [show (⟨T.tb, top0⟩ : Pl).e.d = top0.d from rfl, e1] at hn
  go_enter Try.func7, Try.ntmps7
  go_wp2_with fail
  refine hn.mono ?_
  rintro e w1 ⟨v, rfl, s1, f1⟩
  go_wp2
  go_ret
  exact ⟨_, rfl, s1, f1⟩

set_option maxRecDepth 100000 in
set_option maxHeartbeats 1000000 in
theorem desc_any (w : World) (t : Nat) (T : Tr) (h : IsT w t T) (a : Rf) (ha : a.Ok) (hlen : T.Y.length ≤ 1000) :
    Calls Try.prog 32 #[pv t, rfV a] w fun e w' => ∃ v, e = .returned v ∧ RfS w' w.heap.size v (desF a T.F) ∧ Fr none' w w' := by
  have f1 := (Fr.refl none' w).alloc (.cells #[.int .i64 a.n, .int .i64 a.i] 33)
  have h1 := h.keep0 f1
  have c1 := h1.c1
  cases hh : hasF T.F a with
  | false =>
    rw [des_none hh]
    have l0 : ∀ n, _ := fun n => (h1.keep0 (fr_drewN _ n)).map.look_none ha (mapF_none hh)
    clear h1 h
    go_enter Try.func32, Try.ntmps32
    go_wp2_with fail
    go_quiet (fail)
    go_wp2
    go_ret
    exact ⟨_, rfl, Or.inl ⟨rfl, rfl⟩, f1.trans (fr_drewN _ _)⟩
  | true =>
    obtain ⟨A, x, C, hY, rfl, hA⟩ := place_of hh
    have l0 : ∀ n, _ := fun n => (h1.keep0 (fr_drewN _ n)).map.look_some ha (by rw [hY]; exact mapF_at hA)
    have hn := fun n => names_any _ _ _ _ (ch_tail (h1.keep0 (fr_drewN _ n)) (X_of hY)) (nd_tail h1 (X_of hY)) (by rw [hY] at hlen; simp at hlen; omega)
    rw [F_at hY, des_at hA, ← nm_run]
    clear h1 h
    go_enter Try.func32, Try.ntmps32
    go_wp2_with fail
    go_quiet (fail)
    go_wp2_with fail
    refine (hn _).mono ?_
    rintro e w1 ⟨v, rfl, s1, f2⟩
    obtain ⟨a, cap, rfl⟩ := s1.slice
    go_wp2
    go_ret
    exact ⟨_, rfl, s1.mono (by simp), (f1.trans (fr_drewN _ _)).trans f2⟩

end Go.Proofs.Ytjopmhidldemmaa
