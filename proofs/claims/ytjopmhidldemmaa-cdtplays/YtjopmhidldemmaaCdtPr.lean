/-
  The program's forest through its calls, told by what it says alone. No statement is proved here.
-/
import Derived.Test.YtjopmhidldemmaaCdtOpen
namespace Go.Proofs.Ytjopmhidldemmaa
open Go.RowKit Go.Maps Go.WideMaps

theorem Pr.keep0 {w0 w w' : World} {t : Nat} {F : List En} (h : Pr w0 w t F) (f : Fr none' w w') : Pr w0 w' t F := by
  obtain ⟨T, h1, h2, h3⟩ := h.ex
  exact ⟨⟨T, h1.keep0 f, h2, h3⟩, h.wf, h.ln, h.fr.trans f⟩

/-- A forest's own blocks turned, and nothing else. -/
def FrT (w w' : World) : Prop := ∃ t T, IsT w t T ∧ Fr (T.s t) w w'
theorem FrT.row {w w' : World} (f : FrT w w') {c : Nat} {cs : Array Value} {ty : TypeId} (r : Row w c cs ty) (h1 : ty ≠ 50) (h2 : ty ≠ 47) : Row w' c cs ty := by
  obtain ⟨t, T, hT, hf⟩ := f
  exact r.keep hf (ts_kind hT r h1 h2)
theorem FrT.rfs {w w' : World} (f : FrT w w') {B : Nat} {v : Value} {L : List Rf} (h : RfS w B v L) : RfS w' B v L := by
  rcases h with h | ⟨g, cap, cs, h1, hb, h2, h3, h4, h5⟩
  · exact Or.inl h
  · exact Or.inr ⟨g, cap, cs, h1, hb, h2, h3, f.row h4 (by decide) (by decide), h5⟩
theorem FrT.own {w w' : World} (f : FrT w w') {e : TypeId} {k B n : Nat} {v : Value} {L : List Value} (h : OwnK e k w B v n L) (h1 : e ≠ 50) (h2 : e ≠ 47) : OwnK e k w' B v n L := by
  obtain ⟨t, T, hT, hf⟩ := f
  refine h.at (fun q hq hl => hf.block q hl (fun hs => ?_))
  by_cases hn : n = 0
  · rw [h.2 hn] at hq; simp [Value.ownBlock] at hq
  · obtain ⟨g, cap, cur, hv, _, hr, _⟩ := h.row hn
    rw [hv] at hq
    simp [Value.ownBlock] at hq
    subst hq
    exact ts_kind hT hr h1 h2 hs

theorem pr_chg {w0 w w' : World} {t : Nat} {F F' : List En} {T T' : Tr} (h : Pr w0 w t F) (hT : IsT w t T) (hT3 : ∀ k, T.s t k → w0.heap.size ≤ k) (cg : ChgT w t T w' T') (hF' : T'.F = F') (wf : Wf F') (hl : F'.length ≤ 200) : Pr w0 w' t F' ∧ FrT w w' := by
  obtain ⟨h1, f1, n1⟩ := cg
  refine ⟨⟨⟨T', h1, hF', fun k hk => ?_⟩, wf, hl, fr_high h.fr f1 hT3⟩, t, T, hT, f1⟩
  rcases n1 k hk with h' | h'
  · exact hT3 k h'
  · exact Nat.le_trans h.fr.size h'

theorem padd (w0 w : World) (t : Nat) (F : List En) (h : Pr w0 w t F) (hl : F.length + 1 ≤ 200) (a : Rf) (ha : a.Ok) :
    Calls Try.prog 11 #[pv t, rfV a] w fun e w' => e = .returned (.int .i64 (addE F a)) ∧ Pr w0 w' t (addS F a) ∧ FrT w w' := by
  obtain ⟨T, h1, rfl, h3⟩ := h.ex
  have hlY : T.Y.length = T.F.length := by simp [Tr.F]
  refine (add_any w t T h1 h.wf a ha (by omega)).mono ?_
  rintro e w' ⟨rfl, T', hF', cg⟩
  have hs : stepF T.F ⟨1, a, a⟩ = addS T.F a := rfl
  exact ⟨rfl, pr_chg h h1 h3 cg hF' (by rw [← hs]; exact wf_step h.wf ⟨ha, ha⟩) (by rw [← hs]; have := len_step T.F ⟨1, a, a⟩; omega)⟩
theorem pkid (w0 w : World) (t : Nat) (F : List En) (h : Pr w0 w t F) (hl : F.length + 1 ≤ 200) (p a : Rf) (hp : p.Ok) (ha : a.Ok) :
    Calls Try.prog 13 #[pv t, rfV p, rfV a] w fun e w' => e = .returned (.int .i64 (kidE F p a)) ∧ Pr w0 w' t (kidS F p a) ∧ FrT w w' := by
  obtain ⟨T, h1, rfl, h3⟩ := h.ex
  have hlY : T.Y.length = T.F.length := by simp [Tr.F]
  refine (child_any w t T h1 h.wf p a hp ha (by omega)).mono ?_
  rintro e w' ⟨rfl, T', hF', cg⟩
  have hs : stepF T.F ⟨2, p, a⟩ = kidS T.F p a := rfl
  exact ⟨rfl, pr_chg h h1 h3 cg hF' (by rw [← hs]; exact wf_step h.wf ⟨hp, ha⟩) (by rw [← hs]; have := len_step T.F ⟨2, p, a⟩; omega)⟩
theorem prem (w0 w : World) (t : Nat) (F : List En) (h : Pr w0 w t F) (a : Rf) (ha : a.Ok) :
    Calls Try.prog 14 #[pv t, rfV a] w fun e w' => e = .returned (.int .i64 (remE F a)) ∧ Pr w0 w' t (remF a F) ∧ FrT w w' := by
  obtain ⟨T, h1, rfl, h3⟩ := h.ex
  have hlY : T.Y.length = T.F.length := by simp [Tr.F]
  have hl := h.ln
  refine (remove_any w t T h1 h.wf (by omega) a ha).mono ?_
  rintro e w' ⟨rfl, T', hF', cg⟩
  exact ⟨rfl, pr_chg h h1 h3 cg hF' (wf_rem h.wf a) (by have := rem_len a T.F; omega)⟩
theorem pmov (w0 w : World) (t : Nat) (F : List En) (h : Pr w0 w t F) (a b : Rf) (ha : a.Ok) (hb : b.Ok) :
    Calls Try.prog 15 #[pv t, rfV a, rfV b] w fun e w' => e = .returned (.int .i64 (movE F a b)) ∧ Pr w0 w' t (movS F a b) ∧ FrT w w' := by
  obtain ⟨T, h1, rfl, h3⟩ := h.ex
  have hlY : T.Y.length = T.F.length := by simp [Tr.F]
  have hl := h.ln
  refine (move_any w t T h1 h.wf (by omega) a b ha hb).mono ?_
  rintro e w' ⟨rfl, T', hF', cg⟩
  have hs : stepF T.F ⟨4, a, b⟩ = movS T.F a b := rfl
  refine ⟨rfl, pr_chg h h1 h3 cg hF' (by rw [← hs]; exact wf_step h.wf ⟨ha, hb⟩) ?_⟩
  unfold movS
  repeat' split
  all_goals first | omega | (simp [movF]; omega)
theorem pswp (w0 w : World) (t : Nat) (F : List En) (h : Pr w0 w t F) (a b : Rf) (ha : a.Ok) (hb : b.Ok) :
    Calls Try.prog 16 #[pv t, rfV a, rfV b] w fun e w' => e = .returned (.int .i64 (swpE F a b)) ∧ Pr w0 w' t (swpS F a b) ∧ FrT w w' := by
  obtain ⟨T, h1, rfl, h3⟩ := h.ex
  have hlY : T.Y.length = T.F.length := by simp [Tr.F]
  have hl := h.ln
  refine (swap_any w t T h1 h.wf (by omega) a b ha hb).mono ?_
  rintro e w' ⟨rfl, T', hF', cg⟩
  have hs : stepF T.F ⟨5, a, b⟩ = swpS T.F a b := rfl
  refine ⟨rfl, pr_chg h h1 h3 cg hF' (by rw [← hs]; exact wf_step h.wf ⟨ha, hb⟩) ?_⟩
  unfold swpS
  split
  all_goals first | omega | (simp [swpF]; omega)
theorem phas (w0 w : World) (t : Nat) (F : List En) (h : Pr w0 w t F) (a : Rf) (ha : a.Ok) : Calls Try.prog 24 #[pv t, rfV a] w fun e w' => e = .returned (.bool (hasF F a)) ∧ Fr none' w w' := by
  obtain ⟨T, h1, rfl, h3⟩ := h.ex
  exact has_any w t T h1 a ha
theorem pdep (w0 w : World) (t : Nat) (F : List En) (h : Pr w0 w t F) (a : Rf) (ha : a.Ok) : Calls Try.prog 26 #[pv t, rfV a] w fun e w' => e = .returned (.int .i64 (depF a F)) ∧ Fr none' w w' := by
  obtain ⟨T, h1, rfl, h3⟩ := h.ex
  exact depth_any w t T h1 a ha
theorem ppar (w0 w : World) (t : Nat) (F : List En) (h : Pr w0 w t F) (a : Rf) (ha : a.Ok) : Calls Try.prog 28 #[pv t, rfV a] w fun e w' => e = .returned (.tuple #[rfV (parF a [] F).1, .bool (parF a [] F).2]) ∧ Fr none' w w' := by
  obtain ⟨T, h1, rfl, h3⟩ := h.ex
  exact parent_any w t T h1 h.wf a ha
theorem pbel (w0 w : World) (t : Nat) (F : List En) (h : Pr w0 w t F) (a b : Rf) (ha : a.Ok) : Calls Try.prog 30 #[pv t, rfV a, rfV b] w fun e w' => e = .returned (.bool (belF a b F)) ∧ Fr none' w w' := by
  obtain ⟨T, h1, rfl, h3⟩ := h.ex
  exact bel_any w t T h1 a b ha
theorem pfir (w0 w : World) (t : Nat) (F : List En) (h : Pr w0 w t F) (a : Rf) (ha : a.Ok) : Calls Try.prog 34 #[pv t, rfV a] w fun e w' => e = .returned (.tuple #[rfV (firF a F).1, .bool (firF a F).2]) ∧ Fr none' w w' := by
  obtain ⟨T, h1, rfl, h3⟩ := h.ex
  exact first_any w t T h1 a ha
theorem pdes (w0 w : World) (t : Nat) (F : List En) (h : Pr w0 w t F) (a : Rf) (ha : a.Ok) : Calls Try.prog 32 #[pv t, rfV a] w fun e w' => ∃ v, e = .returned v ∧ RfS w' w.heap.size v (desF a F) ∧ Fr none' w w' := by
  obtain ⟨T, h1, rfl, h3⟩ := h.ex
  have hlY : T.Y.length = T.F.length := by simp [Tr.F]
  have hl := h.ln
  exact desc_any w t T h1 a ha (by omega)
theorem plist (w0 w : World) (t : Nat) (F : List En) (h : Pr w0 w t F) : Calls Try.prog 7 #[pv t] w fun e w' => ∃ v, e = .returned v ∧ RfS w' w.heap.size v (F.map (·.a)) ∧ Fr none' w w' := by
  obtain ⟨T, h1, rfl, h3⟩ := h.ex
  have hlY : T.Y.length = T.F.length := by simp [Tr.F]
  have hl := h.ln
  exact list_any w t T h1 h.wf (by omega)

theorem name_any (n : Int) (w : World) : Calls Try.prog 12 #[.int .i64 n] w fun e w' => e = .returned (rfV ⟨n, 1⟩) ∧ Fr none' w w' := by
  go_enter Try.func12, Try.ntmps12
  go_wp2
  have hr := row_alloc w #[.int .i64 n, .int .i64 1] 33
  have h0 : _ = some (Value.int .i64 n) := hr.cell 0
  have h1 : _ = some (Value.int .i64 1) := hr.cell 1
  refine bodyPost_ret (v := .agg #[.int .i64 n, .int .i64 1]) ?_ rfl ⟨rfl, (Fr.refl none' w).alloc _⟩
  simp [results, Try.f12, go_sem, h0, h1]

theorem pnew (w0 w : World) (f0 : Fr none' w0 w) : Calls Try.prog 5 #[] w fun e w' => ∃ t, e = .returned (pv t) ∧ Pr w0 w' t [] := by
  refine (new_any w).mono ?_
  rintro e w1 ⟨t, T, rfl, hT, hY, f1, n1⟩
  exact ⟨t, rfl, ⟨T, hT, by simp [Tr.F, hY], fun k hk => Nat.le_trans f0.size (n1 k hk)⟩, wf_nil, by simp, f0.trans f1⟩

end Go.Proofs.Ytjopmhidldemmaa
