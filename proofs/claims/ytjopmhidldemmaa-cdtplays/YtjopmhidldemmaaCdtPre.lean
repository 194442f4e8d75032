/-
  The document's row and the program's list tell one forest ('Pre'), as plain data: what it says of depths, parents and descendants. No statement is proved here.
-/
import Derived.Test.YtjopmhidldemmaaCdtPlB
namespace Go.Proofs.Ytjopmhidldemmaa
open Go.RowKit

/-- The list is what stands below some of the row, in order, from a depth on. -/
inductive Pre (L : List On) : Int → List Nat → List En → Prop
  | nil (d : Int) : Pre L d [] []
  | cons {d : Int} {x : Nat} {o : On} {l : List Nat} {G H : List En} (hx : L[x]? = some o) (hg : o.go = false) (h1 : Pre L (d + 1) o.ks G) (h2 : Pre L d l H) : Pre L d (x :: l) (⟨o.a, d⟩ :: (G ++ H))

/-- No two that are there have one name. -/
def Uq (L : List On) : Prop := ∀ (x y : Nat) (o p : On), L[x]? = some o → L[y]? = some p → o.go = false → p.go = false → o.a = p.a → x = y

theorem has_app (A B : List En) (a : Rf) : hasF (A ++ B) a = (hasF A a || hasF B a) := by simp [hasF]
theorem has_cons (e : En) (F : List En) (a : Rf) : hasF (e :: F) a = (decide (e.a = a) || hasF F a) := by simp [hasF]
theorem has_mem {F : List En} {a : Rf} : hasF F a = true ↔ a ∈ F.map (·.a) := by simp [hasF]
theorem has_false {F : List En} {a : Rf} : hasF F a = false ↔ a ∉ F.map (·.a) := by rw [← has_mem]; simp

structure Nd3 (e : En) (G H : List En) : Prop where
  eg : hasF G e.a = false
  eh : hasF H e.a = false
  g : (G.map (·.a)).Nodup
  h : (H.map (·.a)).Nodup
  d : ∀ a, hasF G a = true → hasF H a = false
theorem nd3 {e : En} {G H : List En} (h : ((e :: (G ++ H)).map (·.a)).Nodup) : Nd3 e G H := by
  rw [List.map_cons, List.nodup_cons, List.map_append, List.mem_append, List.nodup_append] at h
  obtain ⟨h1, h2, h3, h4⟩ := h
  refine ⟨has_false.2 (fun h => h1 (Or.inl h)), has_false.2 (fun h => h1 (Or.inr h)), h2, h3, fun a ha => has_false.2 (fun hb => ?_)⟩
  exact h4 a (has_mem.1 ha) a hb rfl
theorem Nd3.r {e : En} {G H : List En} (n : Nd3 e G H) {a : Rf} (h : hasF H a = true) : hasF G a = false := by
  cases hh : hasF G a with
  | false => rfl
  | true => rw [n.d a hh] at h; cases h
theorem has_ne {F : List En} {a b : Rf} (h : hasF F a = true) (h' : hasF F b = false) : b ≠ a := by
  rintro rfl
  rw [h] at h'
  cases h'

theorem run_app {d : Int} {H : List En} : ∀ {G : List En}, (∀ e ∈ G, d < e.d) → runF d (G ++ H) = G ++ runF d H
  | [], _ => rfl
  | x :: G, h => by
    rw [List.cons_append, runF, if_pos (h x (by simp)), run_app (fun e he => h e (by simp [he]))]
    rfl
theorem rest_app {d : Int} {H : List En} : ∀ {G : List En}, (∀ e ∈ G, d < e.d) → restF d (G ++ H) = restF d H
  | [], _ => rfl
  | x :: G, h => by rw [List.cons_append, restF, if_pos (h x (by simp)), rest_app (fun e he => h e (by simp [he]))]
theorem run_app2 {c : Int} {H : List En} (h : runF c H = []) (h' : restF c H = H) : ∀ G : List En, runF c (G ++ H) = runF c G ∧ restF c (G ++ H) = restF c G ++ H
  | [] => ⟨h, h'⟩
  | x :: G => by
    rw [List.cons_append, runF, runF, restF, restF, (run_app2 h h' G).1, (run_app2 h h' G).2]
    split
    · exact ⟨rfl, rfl⟩
    · exact ⟨rfl, rfl⟩
theorem dep_left {a : Rf} {H : List En} : ∀ {G : List En}, hasF G a = true → depF a (G ++ H) = depF a G
  | [], h => by cases h
  | x :: G, h => by
    rw [List.cons_append, depF, depF]
    split
    · rfl
    · rename_i hx
      rw [has_cons, decide_eq_false hx, Bool.false_or] at h
      exact dep_left h
theorem dep_right {a : Rf} {H : List En} : ∀ {G : List En}, hasF G a = false → depF a (G ++ H) = depF a H
  | [], _ => rfl
  | x :: G, h => by
    rw [has_cons, Bool.or_eq_false_iff, decide_eq_false_iff_not] at h
    rw [List.cons_append, depF, if_neg h.1, dep_right h.2]
theorem par_left {a : Rf} {H : List En} : ∀ {G B : List En}, hasF G a = true → parF a B (G ++ H) = parF a B G
  | [], _, h => by cases h
  | x :: G, B, h => by
    rw [List.cons_append, parF, parF]
    split
    · rfl
    · rename_i hx
      rw [has_cons, decide_eq_false hx, Bool.false_or] at h
      exact par_left h
theorem par_right {a : Rf} {H : List En} : ∀ {G B : List En}, hasF G a = false → parF a B (G ++ H) = parF a (G.reverse ++ B) H
  | [], _, _ => rfl
  | x :: G, B, h => by
    rw [has_cons, Bool.or_eq_false_iff, decide_eq_false_iff_not] at h
    rw [List.cons_append, parF, if_neg h.1, par_right h.2]
    simp
theorem near_skip {d : Int} {B : List En} : ∀ {A : List En}, (∀ e ∈ A, d ≤ e.d) → nearF d (A ++ B) = nearF d B
  | [], _ => rfl
  | x :: A, h => by rw [List.cons_append, nearF, if_pos (h x (by simp)), near_skip (fun e he => h e (by simp [he]))]
theorem des_left {a : Rf} {H : List En} : ∀ {G : List En}, hasF G a = true → (∀ e ∈ G, runF e.d H = [] ∧ restF e.d H = H) → desF a (G ++ H) = desF a G
  | [], h, _ => by cases h
  | x :: G, h, hr => by
    rw [List.cons_append, desF, desF]
    split
    · rw [(run_app2 (hr x (by simp)).1 (hr x (by simp)).2 G).1]
    · rename_i hx
      rw [has_cons, decide_eq_false hx, Bool.false_or] at h
      exact des_left h (fun e he => hr e (by simp [he]))
theorem des_right {a : Rf} {H : List En} : ∀ {G : List En}, hasF G a = false → desF a (G ++ H) = desF a H
  | [], _ => rfl
  | x :: G, h => by
    rw [has_cons, Bool.or_eq_false_iff, decide_eq_false_iff_not] at h
    rw [List.cons_append, desF, if_neg h.1, des_right h.2]

section
variable {L : List On} {d : Int} {l : List Nat} {F : List En}
theorem Pre.deep (h : Pre L d l F) : ∀ e ∈ F, d ≤ e.d := by
  induction h with
  | nil d => intro e he; cases he
  | cons hx hg h1 h2 i1 i2 =>
    intro e he
    rcases List.mem_cons.1 he with rfl | he
    · exact Int.le_refl _
    · rcases List.mem_append.1 he with he | he
      · have := i1 e he; omega
      · exact i2 e he
theorem Pre.stop (h : Pre L d l F) {c : Int} (hc : d ≤ c) : runF c F = [] ∧ restF c F = F := by
  cases h with
  | nil => exact ⟨rfl, rfl⟩
  | cons hx hg h1 h2 =>
    have : ¬ c < d := by omega
    rw [runF, restF]
    exact ⟨if_neg this, if_neg this⟩
theorem Pre.mem (h : Pre L d l F) : ∀ x ∈ l, ∃ o : On, L[x]? = some o ∧ o.go = false ∧ hasF F o.a = true := by
  induction h with
  | nil d => intro x hx; cases hx
  | cons hx hg h1 h2 i1 i2 =>
    intro y hy
    rcases List.mem_cons.1 hy with rfl | hy
    · exact ⟨_, hx, hg, by rw [has_cons]; simp⟩
    · obtain ⟨o, h3, h4, h5⟩ := i2 y hy
      exact ⟨o, h3, h4, by rw [has_cons, has_app, h5]; simp⟩
theorem Pre.has (h : Pre L d l F) {x : Nat} {o : On} (hx : x ∈ l) (ho : L[x]? = some o) : hasF F o.a = true := by
  obtain ⟨o', h1, _, h3⟩ := h.mem x hx
  rw [ho] at h1
  cases h1
  exact h3
theorem Pre.live (h : Pre L d l F) : ∀ a, hasF F a = true → ∃ (x : Nat) (o : On), L[x]? = some o ∧ o.go = false ∧ o.a = a := by
  induction h with
  | nil d => intro a ha; cases ha
  | cons hx hg h1 h2 i1 i2 =>
    intro a ha
    rw [has_cons, has_app] at ha
    simp only [Bool.or_eq_true, decide_eq_true_eq] at ha
    rcases ha with ha | ha | ha
    · exact ⟨_, _, hx, hg, ha⟩
    · exact i1 a ha
    · exact i2 a ha
theorem Pre.dep (h : Pre L d l F) (hn : (F.map (·.a)).Nodup) : ∀ (x : Nat) (o : On), x ∈ l → L[x]? = some o → depF o.a F = d := by
  induction h with
  | nil d => intro x o hx; cases hx
  | cons hx hg h1 h2 i1 i2 =>
    intro y o hy ho
    have n := nd3 hn
    rcases List.mem_cons.1 hy with rfl | hy
    · rw [hx] at ho
      cases ho
      simp [depF]
    · have hh := h2.has hy ho
      rw [depF, if_neg (has_ne hh n.eh), dep_right (n.r hh)]
      exact i2 n.h y o hy ho
theorem Pre.kid (h : Pre L d l F) (hu : Uq L) {p x : Nat} {op o : On} (hp : L[p]? = some op) (hpg : op.go = false) (hx : x ∈ op.ks) (ho : L[x]? = some o) (hh : hasF F op.a = true) : hasF F o.a = true := by
  induction h with
  | nil d => cases hh
  | cons hx0 hg h1 h2 i1 i2 =>
    rw [has_cons, has_app] at hh ⊢
    simp only [Bool.or_eq_true, decide_eq_true_eq] at hh ⊢
    rcases hh with hh | hh | hh
    · obtain rfl := hu _ _ _ _ hx0 hp hg hpg hh
      rw [hp] at hx0
      cases hx0
      exact Or.inr (Or.inl (h1.has hx ho))
    · exact Or.inr (Or.inl (i1 hh))
    · exact Or.inr (Or.inr (i2 hh))
theorem Pre.depk (h : Pre L d l F) (hn : (F.map (·.a)).Nodup) (hu : Uq L) {p x : Nat} {op o : On} (hp : L[p]? = some op) (hpg : op.go = false) (hx : x ∈ op.ks) (ho : L[x]? = some o) (hh : hasF F op.a = true) : depF o.a F = depF op.a F + 1 := by
  induction h with
  | nil d => cases hh
  | @cons d x0 o0 l G H hx0 hg h1 h2 i1 i2 =>
    have n := nd3 hn
    have hkeep := hh
    rw [has_cons, has_app] at hh
    simp only [Bool.or_eq_true, decide_eq_true_eq] at hh
    rcases hh with hh | hh | hh
    · obtain rfl := hu _ _ _ _ hx0 hp hg hpg hh
      rw [hp] at hx0
      cases hx0
      have h3 := h1.has hx ho
      rw [depF, if_neg (has_ne h3 n.eg), dep_left h3, h1.dep n.g x o hx ho, depF, if_pos rfl]
    · have h3 := h1.kid hu hp hpg hx ho hh
      rw [depF, if_neg (has_ne h3 n.eg), dep_left h3, depF, if_neg (has_ne hh n.eg), dep_left hh]
      exact i1 n.g hh
    · have h3 := h2.kid hu hp hpg hx ho hh
      rw [depF, if_neg (has_ne h3 n.eh), dep_right (n.r h3), depF, if_neg (has_ne hh n.eh), dep_right (n.r hh)]
      exact i2 n.h hh
theorem Pre.all {ro : List Nat} (hG : GoodR L ro) (hu : Uq L) (h : Pre L d ro F) : ∀ (n x : Nat) (o : On), x < n → L[x]? = some o → o.go = false → hasF F o.a = true
  | 0, x, o, hx, _, _ => by omega
  | n + 1, x, o, hx, ho, hg => by
    by_cases hup : o.up < 0
    · exact h.has (hG.cr x o ho hg hup) ho
    · obtain ⟨c, hc, hcg, hk⟩ := hG.pa x o ho hg (by omega)
      have := hG.up x o ho
      exact h.kid hu hc hcg hk ho (Pre.all hG hu h n _ c (by omega) hc hcg)
theorem Pre.par (h : Pre L d l F) (hn : (F.map (·.a)).Nodup) : ∀ (A : List En) (x : Nat) (o : On), x ∈ l → L[x]? = some o → parF o.a A F = ((nearF d A).a, decide (0 ≤ (nearF d A).d)) := by
  induction h with
  | nil d => intro A x o hx; cases hx
  | @cons d x0 o0 l G H hx0 hg h1 h2 i1 i2 =>
    intro A y o hy ho
    have n := nd3 hn
    rcases List.mem_cons.1 hy with rfl | hy
    · rw [hx0] at ho
      cases ho
      rw [parF, if_pos rfl]
    · have hh := h2.has hy ho
      rw [parF, if_neg (has_ne hh n.eh), par_right (n.r hh), i2 n.h _ y o hy ho, near_skip (fun e he => by
        have := h1.deep e (List.mem_reverse.1 he)
        omega), nearF, if_pos (Int.le_refl _)]
theorem Pre.park (h : Pre L d l F) (hn : (F.map (·.a)).Nodup) (hu : Uq L) {p x : Nat} {op o : On} (hp : L[p]? = some op) (hpg : op.go = false) (hx : x ∈ op.ks) (ho : L[x]? = some o) (hh : hasF F op.a = true) : ∀ A : List En, 0 ≤ d → parF o.a A F = (op.a, true) := by
  induction h with
  | nil d => cases hh
  | @cons d x0 o0 l G H hx0 hg h1 h2 i1 i2 =>
    intro A hd
    have n := nd3 hn
    rw [has_cons, has_app] at hh
    simp only [Bool.or_eq_true, decide_eq_true_eq] at hh
    rcases hh with hh | hh | hh
    · obtain rfl := hu _ _ _ _ hx0 hp hg hpg hh
      rw [hp] at hx0
      cases hx0
      have h3 := h1.has hx ho
      rw [parF, if_neg (has_ne h3 n.eg), par_left h3, h1.par n.g _ x o hx ho, nearF, if_neg (by show ¬ d + 1 ≤ d; omega)]
      simp [hd]
    · have h3 := h1.kid hu hp hpg hx ho hh
      rw [parF, if_neg (has_ne h3 n.eg), par_left h3]
      exact i1 n.g hh _ (by omega)
    · have h3 := h2.kid hu hp hpg hx ho hh
      rw [parF, if_neg (has_ne h3 n.eh), par_right (n.r h3)]
      exact i2 n.h hh _ hd
theorem Pre.des (h : Pre L d l F) (hn : (F.map (·.a)).Nodup) (hu : Uq L) {k : Nat} {ok : On} (hk : L[k]? = some ok) (hkg : ok.go = false) (hh : hasF F ok.a = true) : ∃ (d' : Int) (G : List En), Pre L d' ok.ks G ∧ desF ok.a F = G.map (·.a) ∧ G.length ≤ F.length := by
  induction h with
  | nil d => cases hh
  | @cons d x0 o0 l G H hx0 hg h1 h2 i1 i2 =>
    have n := nd3 hn
    rw [has_cons, has_app] at hh
    simp only [Bool.or_eq_true, decide_eq_true_eq] at hh
    rcases hh with hh | hh | hh
    · obtain rfl := hu _ _ _ _ hx0 hk hg hkg hh
      rw [hk] at hx0
      cases hx0
      refine ⟨_, G, h1, ?_, by simp; omega⟩
      rw [desF, if_pos rfl, run_app (fun e he => by have := h1.deep e he; show d < e.d; omega), (h2.stop (Int.le_refl _)).1, List.append_nil]
    · obtain ⟨d', G', g1, g2, g3⟩ := i1 n.g hh
      refine ⟨d', G', g1, ?_, by simp; omega⟩
      rw [desF, if_neg (has_ne hh n.eg), des_left hh (fun e he => h2.stop (by have := h1.deep e he; omega)), g2]
    · obtain ⟨d', G', g1, g2, g3⟩ := i2 n.h hh
      refine ⟨d', G', g1, ?_, by simp; omega⟩
      rw [desF, if_neg (has_ne hh n.eh), des_right (n.r hh), g2]
theorem Pre.kin (h : Pre L d l F) (hu : Uq L) {y : Nat} {oy : On} (hy : L[y]? = some oy) (hyg : oy.go = false) (hh : hasF F oy.a = true) : y ∈ l ∨ ∃ (p : Nat) (op : On), L[p]? = some op ∧ op.go = false ∧ y ∈ op.ks ∧ hasF F op.a = true := by
  induction h with
  | nil d => cases hh
  | @cons d x0 o0 l G H hx0 hg h1 h2 i1 i2 =>
    rw [has_cons, has_app] at hh
    simp only [Bool.or_eq_true, decide_eq_true_eq] at hh
    rcases hh with hh | hh | hh
    · obtain rfl := hu _ _ _ _ hx0 hy hg hyg hh
      exact Or.inl (by simp)
    · rcases i1 hh with h3 | ⟨p, op, h3, h4, h5, h6⟩
      · exact Or.inr ⟨x0, o0, hx0, hg, h3, by rw [has_cons]; simp⟩
      · exact Or.inr ⟨p, op, h3, h4, h5, by rw [has_cons, has_app, h6]; simp⟩
    · rcases i2 hh with h3 | ⟨p, op, h3, h4, h5, h6⟩
      · exact Or.inl (by simp [h3])
      · exact Or.inr ⟨p, op, h3, h4, h5, by rw [has_cons, has_app, h6]; simp⟩
/-- The pieces that the row's own order makes. -/
theorem Pre.parts (h : Pre L d l F) : ∃ S : List (List En), S.length = l.length ∧ F = S.flatten ∧ ∀ (i x : Nat), l[i]? = some x → ∃ (o : On) (G : List En), L[x]? = some o ∧ S[i]? = some (⟨o.a, d⟩ :: G) ∧ Pre L (d + 1) o.ks G := by
  induction h with
  | nil d => exact ⟨[], rfl, rfl, fun i x hi => by simp at hi⟩
  | @cons d x0 o0 l G H hx0 hg h1 h2 i1 i2 =>
    obtain ⟨S, s1, s2, s3⟩ := i2
    refine ⟨(⟨o0.a, d⟩ :: G) :: S, by simp [s1], by rw [s2]; simp, fun i x hi => ?_⟩
    cases i with
    | zero =>
      simp at hi
      subst hi
      exact ⟨o0, G, hx0, rfl, h1⟩
    | succ i => exact s3 i x (by simpa using hi)
end

end Go.Proofs.Ytjopmhidldemmaa
