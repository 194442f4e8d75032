/-
  Contracts of package cdt's Child and Depth over the translation. No statement is proved here.
-/
import Derived.Test.YtjopmhidldemmaaCdtAdd
namespace Go.Proofs.Ytjopmhidldemmaa
open Go.RowKit Go.Maps Go.WideMaps

theorem X_of {T : Tr} {A C : List Pl} {x : Pl} (h : T.Y = A ++ x :: C) : T.X = (⟨T.tb, top0⟩ :: A) ++ x :: C := by simp [Tr.X, h]
theorem F_at {T : Tr} {A C : List Pl} {x : Pl} (h : T.Y = A ++ x :: C) : T.F = A.map (·.e) ++ x.e :: C.map (·.e) := by simp [Tr.F, h]
theorem Wf.deep {F : List En} (h : Wf F) {e : En} (he : e ∈ F) : 0 ≤ e.d ∧ e.d < F.length := by
  have h1 := h.st.ge e he
  have h2 := h.st.le e he
  omega

set_option maxRecDepth 100000 in
set_option maxHeartbeats 1000000 in
theorem child_any (w : World) (t : Nat) (T : Tr) (h : IsT w t T) (wf : Wf T.F) (p a : Rf) (hp : p.Ok) (ha : a.Ok) (hlen : T.Y.length ≤ 1000) :
    Calls Try.prog 13 #[pv t, rfV p, rfV a] w fun e w' => e = .returned (.int .i64 (kidE T.F p a)) ∧ ∃ T', T'.F = kidS T.F p a ∧ ChgT w t T w' T' := by
  have f1 := ((Fr.refl none' w).alloc (.cells #[.int .i64 p.n, .int .i64 p.i] 33)).alloc (.cells #[.int .i64 a.n, .int .i64 a.i] 33)
  have ra := row_alloc1 w (.cells #[.int .i64 p.n, .int .i64 p.i] 33) #[.int .i64 a.n, .int .i64 a.i] 33
  have h1 := h.keep0 f1
  have c1 := h1.c1
  have HH : Hid (IsT w t T) := ⟨h⟩
  have H1 : Hid (IsT _ t T) := ⟨h1⟩
  unfold kidE kidS
  cases hp' : hasF T.F p with
  | false =>
    have l0 : ∀ n, _ := fun n => (h1.keep0 (fr_drewN _ n)).map.look_none hp (mapF_none hp')
    clear h h1 ra
    go_enter Try.func13, Try.ntmps13
    go_wp2_with fail
    go_quiet (fail)
    go_wp2
    go_ret
    exact ⟨rfl, T, rfl, ChgT.same HH.out (f1.trans (fr_drewN _ _))⟩
  | true =>
    obtain ⟨A, x, C, hY, hx, hA⟩ := place_of hp'
    have l0 : ∀ n, _ := fun n => (h1.keep0 (fr_drewN _ n)).map.look_some hp (by rw [hY, ← hx]; exact mapF_at (by rw [hx]; exact hA))
    have RA : Hid _ := ⟨ra⟩
    clear h h1 ra
    go_enter Try.func13, Try.ntmps13
    go_wp2_with fail
    go_quiet (fail)
    go_wp2_with fail
    refine (has_any _ t T (H1.out.keep0 (fr_drewN _ _)) a ha).mono ?_
    rintro e w2 ⟨rfl, f2⟩
    have h2 := (H1.out.keep0 (fr_drewN _ _)).keep0 f2
    have ra := (RA.out.keep (fr_drewN _ _) (fun h => h)).keep f2 (fun h => h)
    replace f1 := (f1.trans (fr_drewN _ _)).trans f2
    clear f2 l0 c1 H1 RA
    cases hh : hasF T.F a with
    | true =>
      go_wp2
      go_ret
      exact ⟨rfl, T, rfl, ChgT.same HH.out f1⟩
    | false =>
      have a0 := ra.cell 0
      have a1 := ra.cell 1
      have dx := wf.deep (e := x.e) (by rw [F_at hY]; simp)
      have hlF : T.F.length = T.Y.length := by simp [Tr.F]
      have hi := insert_any w2 t T h2 _ C x (X_of hY) (by omega) (by omega) a ha hh hlen wf.nd
      clear h2 ra
      go_wp2_with fail
      refine hi.mono ?_
      rintro e w3 ⟨⟨v, rfl⟩, T', y, hX, hy, cg⟩
      go_wp2
      go_ret
      refine ⟨rfl, T', ?_, cg.1, ?_, ?_⟩
      · have hF := F_of hX
        simp only [List.map_cons, List.cons_append, List.cons.injEq, true_and, hy] at hF
        rw [hF, F_at hY, ← hx]
        exact (kid_at (by rw [hx]; exact hA) a).symm
      · exact (f1.mono (fun _ _ h => h.elim)).trans (cg.2.1.mono (fun _ _ h => h))
      · intro k hk
        rcases cg.2.2 k hk with h | h
        · exact Or.inl h
        · exact Or.inr (Nat.le_trans f1.size h)

set_option maxRecDepth 100000 in
set_option maxHeartbeats 1000000 in
theorem depth_any (w : World) (t : Nat) (T : Tr) (h : IsT w t T) (a : Rf) (ha : a.Ok) : Calls Try.prog 26 #[pv t, rfV a] w fun e w' => e = .returned (.int .i64 (depF a T.F)) ∧ Fr none' w w' := by
  have f1 := (Fr.refl none' w).alloc (.cells #[.int .i64 a.n, .int .i64 a.i] 33)
  have h1 := h.keep0 f1
  have c1 := h1.c1
  cases hh : hasF T.F a with
  | false =>
    rw [dep_none hh]
    have l0 : ∀ n, _ := fun n => (h1.keep0 (fr_drewN _ n)).map.look_none ha (mapF_none hh)
    clear h1 h
    go_enter Try.func26, Try.ntmps26
    go_wp2_with fail
    go_quiet (fail)
    go_wp2
    go_ret
    exact ⟨rfl, f1.trans (fr_drewN _ _)⟩
  | true =>
    obtain ⟨A, x, C, hY, rfl, hA⟩ := place_of hh
    have l0 : ∀ n, _ := fun n => (h1.keep0 (fr_drewN _ n)).map.look_some ha (by rw [hY]; exact mapF_at hA)
    have hch := h1.ch
    rw [X_of hY] at hch
    obtain ⟨_, _, c2, _, _⟩ := pl5 hch.at'.2.1
    rw [F_at hY, dep_at hA]
    clear h1 h hch
    go_enter Try.func26, Try.ntmps26
    go_wp2_with fail
    go_quiet (fail)
    go_wp2
    go_ret
    exact ⟨rfl, f1.trans (fr_drewN _ _)⟩

end Go.Proofs.Ytjopmhidldemmaa
