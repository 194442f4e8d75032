/-
  What a removal leaves, over plain lists: names, places, who is below whom. No program, no statement.
-/
import Derived.Test.YtiabloiglmnfpaaCdtForQ
namespace Go.Proofs.Ytiabloiglmnfpaa
open Go.RowKit

theorem run_app_all {d : Int} {L : List En} : ∀ {A : List En}, (∀ z ∈ A, d < z.d) → runF d (A ++ L) = A ++ runF d L
  | [], _ => rfl
  | y :: A, h => by
    rw [List.cons_append, runF, if_pos (h y (by simp)), run_app_all (fun z hz => h z (by simp [hz]))]
    rfl
theorem run_app_not {d : Int} {L : List En} : ∀ {A : List En}, ¬ (∀ z ∈ A, d < z.d) → runF d (A ++ L) = runF d A
  | [], h => absurd (fun z hz => nomatch hz) h
  | y :: A, h => by
    rw [List.cons_append, runF, runF]
    by_cases hy : d < y.d
    · rw [if_pos hy, if_pos hy, run_app_not (A := A) (fun hh => h (fun z hz => by
        rcases List.mem_cons.1 hz with rfl | hz
        · exact hy
        · exact hh z hz))]
    · rw [if_neg hy, if_neg hy]
theorem run_up (d : Int) : ∀ R : List En, runF (d - 1) (R.map up1) = (runF d R).map up1
  | [] => rfl
  | y :: R => by
    rw [List.map_cons, runF, runF]
    by_cases hy : d < y.d
    · rw [if_pos hy, if_pos (show d - 1 < (up1 y).d by show d - 1 < y.d - 1; omega), run_up d R]
      rfl
    · rw [if_neg hy, if_neg (show ¬ d - 1 < (up1 y).d by show ¬ d - 1 < y.d - 1; omega)]
      rfl
theorem up_names (R : List En) : (R.map up1).map (·.a) = R.map (·.a) := by
  rw [List.map_map]
  rfl
theorem run_rest_none {d e : Int} (h : e ≤ d) (C : List En) : runF d (restF e C) = [] := by
  cases hc : restF e C with
  | nil => rfl
  | cons y T =>
    have := restF_head hc
    rw [runF, if_neg (by omega)]

/-- Behind a removal the names deeper than one ahead of it. -/
theorem rem_run {d : Int} {e : En} {C : List En} (hs : Steps e.d C) (b : Rf) (hb : b ≠ e.a) : b ∈ (runF d ((runF e.d C).map up1 ++ restF e.d C)).map (·.a) ↔ b ∈ (runF d (e :: C)).map (·.a) := by
  by_cases hd : d < e.d
  · have h1 : runF d (e :: C) = e :: (runF e.d C ++ runF d (restF e.d C)) := by
      conv => lhs; rw [← runF_restF e.d C]
      rw [runF, if_pos hd, run_app_all (fun z hz => by have := runF_deep hz; omega)]
    have h2 : runF d ((runF e.d C).map up1 ++ restF e.d C) = (runF e.d C).map up1 ++ runF d (restF e.d C) := run_app_all (fun z hz => by
      obtain ⟨y, hy, rfl⟩ := List.mem_map.1 hz
      have := runF_deep hy
      show d < y.d - 1
      omega)
    rw [h1, h2, List.map_append, up_names, List.map_cons, List.map_append]
    constructor
    · intro h; exact List.mem_cons_of_mem _ h
    · intro h
      rcases List.mem_cons.1 h with h | h
      · exact absurd h hb
      · exact h
  · have h1 : runF d (e :: C) = [] := by rw [runF, if_neg hd]
    have h2 : runF d ((runF e.d C).map up1 ++ restF e.d C) = [] := by
      cases hr : runF e.d C with
      | nil => exact run_rest_none (by omega) C
      | cons r R =>
        have hr1 : r.d ≤ e.d + 1 := by
          cases C with
          | nil => simp [runF] at hr
          | cons c C =>
            rw [runF] at hr
            split at hr
            · have := hs.2.1
              rw [← (List.cons.inj hr).1]
              exact this
            · cases hr
        rw [List.map_cons, List.cons_append, runF, if_neg (show ¬ d < (up1 r).d by show ¬ d < r.d - 1; omega)]
    rw [h1, h2]

theorem split_at {F : List En} {i : Nat} {x : En} (hi : F[i]? = some x) : ∃ A C, F = A ++ x :: C := by
  have hil : i < F.length := by
    rcases Nat.lt_or_ge i F.length with h | h
    · exact h
    · rw [List.getElem?_eq_none h] at hi; cases hi
  have hx : F[i] = x := by rw [List.getElem?_eq_getElem hil] at hi; exact Option.some.inj hi
  exact ⟨F.take i, F.drop (i + 1), by conv => lhs; rw [← List.take_append_drop i F, List.drop_eq_getElem_cons hil, hx]⟩

theorem rem_bel {F : List En} (wf : Wf F) {a : Rf} (wf' : Wf (remF a F)) {x : En} (hx : x ∈ F) (hxa : x.a ≠ a) {b : Rf} (hb : b ≠ a) : belF x.a b (remF a F) = belF x.a b F := by
  cases ha : hasF F a with
  | false => rw [rem_none ha]
  | true =>
    obtain ⟨A, e, C, hF, rfl, hA⟩ := has_split ha
    have hR : remF e.a F = A ++ ((runF e.d C).map up1 ++ restF e.d C) := by rw [hF, rem_at hA]
    have hst : Steps e.d C := (hF ▸ wf.st : Steps (-1) (A ++ e :: C)).backOf
    have hC := runF_restF e.d C
    unfold belF
    congr 1
    rw [eq_iff_iff]
    have hx' : x ∈ A ∨ x ∈ runF e.d C ∨ x ∈ restF e.d C := by
      rw [hF] at hx
      rcases List.mem_append.1 hx with h | h
      · exact Or.inl h
      · rcases List.mem_cons.1 h with h | h
        · exact absurd (by rw [h]) hxa
        · rw [← hC] at h
          exact Or.inr (List.mem_append.1 h)
    rcases hx' with h | h | h
    · obtain ⟨A1, A2, rfl⟩ := List.append_of_mem h
      have h1 : F = A1 ++ x :: (A2 ++ e :: C) := by rw [hF]; simp
      have h2 : remF e.a F = A1 ++ x :: (A2 ++ ((runF e.d C).map up1 ++ restF e.d C)) := by rw [hR]; simp
      have n1 : hasF A1 x.a = false := nod_has (by rw [← h1]; exact wf.nd)
      rw [h2, h1, des_at n1, des_at n1]
      by_cases hd : ∀ z ∈ A2, x.d < z.d
      · rw [run_app_all hd, run_app_all hd, List.map_append, List.map_append, List.mem_append, List.mem_append, rem_run hst b hb]
      · rw [run_app_not hd, run_app_not hd]
    · obtain ⟨R1, R2, hRR⟩ := List.append_of_mem h
      have hxd := runF_deep h
      have h1 : F = (A ++ e :: R1) ++ x :: (R2 ++ restF e.d C) := by
        rw [hF]
        conv => lhs; rw [← hC, hRR]
        simp
      have h2 : remF e.a F = (A ++ R1.map up1) ++ up1 x :: (R2.map up1 ++ restF e.d C) := by rw [hR, hRR]; simp
      have n1 : hasF (A ++ e :: R1) x.a = false := nod_has (by rw [← h1]; exact wf.nd)
      have n2 : hasF (A ++ R1.map up1) (up1 x).a = false := nod_has (by rw [← h2]; exact wf'.nd)
      have e2 : desF x.a (remF e.a F) = (runF (x.d - 1) (R2.map up1 ++ restF e.d C)).map (·.a) := by rw [h2]; exact des_at n2
      have e1 : desF x.a F = (runF x.d (R2 ++ restF e.d C)).map (·.a) := by rw [h1]; exact des_at n1
      have e3 : runF x.d (R2 ++ restF e.d C) = runF x.d R2 := by
        by_cases hd : ∀ z ∈ R2, x.d < z.d
        · have := run_app_all (L := []) hd
          rw [run_app_all hd, run_rest_none (by omega)]
          rw [List.append_nil] at this
          rw [this]
          rfl
        · exact run_app_not hd
      have e4 : runF (x.d - 1) (R2.map up1 ++ restF e.d C) = runF (x.d - 1) (R2.map up1) := by
        by_cases hd : ∀ z ∈ R2.map up1, x.d - 1 < z.d
        · have := run_app_all (L := []) hd
          rw [run_app_all hd, run_rest_none (by omega)]
          rw [List.append_nil] at this
          rw [this]
          rfl
        · exact run_app_not hd
      rw [e1, e2, e3, e4, run_up, up_names]
    · obtain ⟨T1, T2, hTT⟩ := List.append_of_mem h
      have h1 : F = (A ++ e :: (runF e.d C ++ T1)) ++ x :: T2 := by
        rw [hF]
        conv => lhs; rw [← hC, hTT]
        simp
      have h2 : remF e.a F = (A ++ ((runF e.d C).map up1 ++ T1)) ++ x :: T2 := by rw [hR, hTT]; simp
      have n1 : hasF (A ++ e :: (runF e.d C ++ T1)) x.a = false := nod_has (by rw [← h1]; exact wf.nd)
      have n2 : hasF (A ++ ((runF e.d C).map up1 ++ T1)) x.a = false := nod_has (by rw [← h2]; exact wf'.nd)
      have e1 : desF x.a F = (runF x.d T2).map (·.a) := by rw [h1]; exact des_at n1
      have e2 : desF x.a (remF e.a F) = (runF x.d T2).map (·.a) := by rw [h2]; exact des_at n2
      rw [e1, e2]

/-- The others. -/
def oth (a : Rf) (e : En) : Bool := decide (e.a ≠ a)
theorem rem_names {F : List En} (wf : Wf F) (a : Rf) : (remF a F).map (·.a) = (F.filter (oth a)).map (·.a) := by
  cases ha : hasF F a with
  | false =>
    rw [rem_none ha, List.filter_eq_self.2 (fun e he => by simp [oth, has_not ha e he])]
  | true =>
    obtain ⟨A, e, C, hF, rfl, hA⟩ := has_split ha
    have hR : remF e.a F = A ++ ((runF e.d C).map up1 ++ restF e.d C) := by rw [hF, rem_at hA]
    have hCn : ∀ z ∈ C, z.a ≠ e.a := fun z hz h => by
      have hw := wf.nd
      rw [hF, List.map_append, List.nodup_append, List.map_cons] at hw
      exact (List.nodup_cons.1 hw.2.1).1 (by rw [← h]; exact List.mem_map_of_mem hz)
    rw [hR, hF, List.filter_append, List.filter_cons, if_neg (by simp [oth]), List.filter_eq_self.2 (fun z hz => by simp [oth, has_not hA z hz]), List.filter_eq_self.2 (fun z hz => by simp [oth, hCn z hz])]
    rw [List.map_append, List.map_append, List.map_append, up_names]
    conv => rhs; rw [← runF_restF e.d C]
    rw [List.map_append]
theorem filter_idx (p : En → Bool) : ∀ {F : List En} {i : Nat} {x : En}, F[i]? = some x → p x = true → (F.filter p)[(F.take i).countP p]? = some x
  | [], _, _, h, _ => by simp at h
  | y :: F, 0, x, h, hp => by
    simp at h
    subst h
    simp [hp]
  | y :: F, i + 1, x, h, hp => by
    have ih := filter_idx p (F := F) (i := i) (by simpa using h) hp
    rw [List.take_succ_cons, List.countP_cons, List.filter_cons]
    by_cases hy : p y = true
    · rw [if_pos hy, if_pos hy, List.getElem?_cons_succ]
      exact ih
    · rw [if_neg hy, if_neg hy, Nat.add_zero]
      exact ih
theorem rem_count {F : List En} (wf : Wf F) (a : Rf) : F.countP (oth a) = (remF a F).length := by
  have := congrArg List.length (rem_names wf a)
  rw [List.length_map, List.length_map] at this
  rw [this, List.countP_eq_length_filter]
theorem rem_less {F : List En} (a : Rf) : (hasF F a = true → (remF a F).length + 1 = F.length) ∧ (hasF F a = false → (remF a F).length = F.length) := by
  constructor
  · intro ha
    obtain ⟨A, e, C, hF, rfl, hA⟩ := has_split ha
    have hl := congrArg List.length (runF_restF e.d C)
    rw [List.length_append] at hl
    rw [hF, rem_at hA]
    simp
    omega
  · intro ha; rw [rem_none ha]

/-! ### the square of bools -/
def rowB (F : List En) (x : En) (G : List En) : List Value := G.map fun y => Value.bool (belF x.a y.a F)
def allB (F G : List En) : List Value := G.flatMap fun x => rowB F x F
theorem rowB_len (F : List En) (x : En) (G : List En) : (rowB F x G).length = G.length := by simp [rowB]
theorem allB_len (F : List En) : ∀ G : List En, (allB F G).length = G.length * F.length
  | [] => by simp [allB]
  | x :: G => by
    have : allB F (x :: G) = rowB F x F ++ allB F G := by simp [allB]
    rw [this, List.length_append, allB_len F G, rowB_len, List.length_cons, Nat.add_mul]
    omega
theorem allB_app (F G : List En) (x : En) : allB F (G ++ [x]) = allB F G ++ rowB F x F := by simp [allB]
theorem allB_get (F : List En) : ∀ {G : List En} {i k : Nat} {x y : En}, G[i]? = some x → F[k]? = some y → (allB F G)[i * F.length + k]? = some (.bool (belF x.a y.a F))
  | [], _, _, _, _, h, _ => by simp at h
  | g :: G, 0, k, x, y, h, hk => by
    simp at h
    subst h
    have e : allB F (g :: G) = rowB F g F ++ allB F G := by simp [allB]
    have hkl : k < F.length := by
      rcases Nat.lt_or_ge k F.length with h | h
      · exact h
      · rw [List.getElem?_eq_none h] at hk; cases hk
    rw [e, Nat.zero_mul, Nat.zero_add, List.getElem?_append_left (by rw [rowB_len]; exact hkl)]
    simp [rowB, hk]
  | g :: G, i + 1, k, x, y, h, hk => by
    have e : allB F (g :: G) = rowB F g F ++ allB F G := by simp [allB]
    rw [e, Nat.add_mul, Nat.one_mul, List.getElem?_append_right (by rw [rowB_len]; omega), rowB_len, show i * F.length + F.length + k - F.length = i * F.length + k by omega]
    exact allB_get F (by simpa using h) hk

end Go.Proofs.Ytiabloiglmnfpaa
