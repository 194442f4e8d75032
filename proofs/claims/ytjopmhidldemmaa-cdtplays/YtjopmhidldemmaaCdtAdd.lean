/-
  Contracts of package cdt's Add, Child and Depth over the translation. No statement is proved here.
-/
import Derived.Test.YtjopmhidldemmaaCdtInsW
namespace Go.Proofs.Ytjopmhidldemmaa
open Go.RowKit Go.Maps Go.WideMaps

theorem F_of {T' : Tr} {A C : List Pl} {x y : Pl} (h : T'.X = A ++ x :: y :: C) : top0 :: T'.F = A.map (·.e) ++ x.e :: y.e :: C.map (·.e) := by
  have := congrArg (List.map (·.e)) h
  simpa [Tr.X, Tr.F] using this

def addE (F : List En) (a : Rf) : Int := if hasF F a then 130 else 0
def addS (F : List En) (a : Rf) : List En := if hasF F a then F else addF a F
def kidE (F : List En) (p a : Rf) : Int := if hasF F p then (if hasF F a then 130 else 0) else 131
def kidS (F : List En) (p a : Rf) : List En := if hasF F p then (if hasF F a then F else kidF p a F) else F

set_option maxRecDepth 100000 in
set_option maxHeartbeats 1000000 in
theorem add_any (w : World) (t : Nat) (T : Tr) (h : IsT w t T) (wf : Wf T.F) (a : Rf) (ha : a.Ok) (hlen : T.Y.length ≤ 1000) :
    Calls Try.prog 11 #[pv t, rfV a] w fun e w' => e = .returned (.int .i64 (addE T.F a)) ∧ ∃ T', T'.F = addS T.F a ∧ ChgT w t T w' T' := by
  have f1 := (Fr.refl none' w).alloc (.cells #[.int .i64 a.n, .int .i64 a.i] 33)
  have ra := row_alloc w #[.int .i64 a.n, .int .i64 a.i] 33
  have h1 := h.keep0 f1
  have HH : Hid (IsT w t T) := ⟨h⟩
  clear h
  unfold addE addS
  go_enter Try.func11, Try.ntmps11
  go_wp2_with fail
  refine (has_any _ t T h1 a ha).mono ?_
  rintro e w2 ⟨rfl, f2⟩
  replace h1 := h1.keep0 f2
  replace ra := ra.keep f2 (fun h => h)
  replace f1 := f1.trans f2
  clear f2
  cases hh : hasF T.F a with
  | true =>
    go_wp2
    go_ret
    exact ⟨rfl, T, rfl, ChgT.same HH.out f1⟩
  | false =>
    have a0 := ra.cell 0
    have a1 := ra.cell 1
    have c0 := h1.c0
    have hi := fun n => insert_any (w2.drewN n) t T (h1.keep0 (fr_drewN _ n)) [] T.Y ⟨T.tb, top0⟩ rfl (by simp [top0]) (by simp [top0]) a ha hh hlen wf.nd
    clear h1 ra
    go_wp2_with fail
    go_region_with (go_at_call 35; refine (hi 1).mono ?_; rintro e w3 ⟨⟨v, rfl⟩, T', y, hX, hy, cg⟩)
    all_goals go_wp2
    all_goals go_ret
    all_goals (
      refine ⟨rfl, T', ?_, cg.1, ?_, ?_⟩
      · have := F_of hX
        simp only [List.map_nil, List.nil_append, List.cons.injEq, true_and, hy] at this
        exact this
      · exact (f1.mono (fun _ _ h => h.elim)).trans (((fr_drewN _ 1).mono (fun _ _ h => h.elim)).trans (cg.2.1.mono (fun _ _ h => h)))
      · intro k hk
        rcases cg.2.2 k hk with h | h
        · exact Or.inl h
        · exact Or.inr (Nat.le_trans f1.size (Nat.le_trans (fr_drewN w2 1).size h)))

end Go.Proofs.Ytjopmhidldemmaa
