/-
  The slots that are not empty, as a plain list: in whatever order nodes are gone through, put in order it is this list. No program, no statement.
-/
import Derived.Test.YtibdkadojoeopaaCsOrd
namespace Go.Proofs.Ytibdkadojoeopaa
open Go.RowKit

theorem mem_fulR {n : Nd} {x : Rf} : ∀ {m : Nat}, x ∈ fulR n m ↔ ∃ j, j < m ∧ (n.sl j).k ≠ 0 ∧ x = ⟨n.id, j⟩
  | 0 => by simp [fulR]
  | m + 1 => by
    simp only [fulR, List.mem_append, mem_fulR (m := m)]
    constructor
    · rintro (⟨j, h1, h2, h3⟩ | h)
      · exact ⟨j, by omega, h2, h3⟩
      · split at h
        · rename_i hh
          exact ⟨m, by omega, by simpa using hh, by simpa using h⟩
        · cases h
    · rintro ⟨j, h1, h2, h3⟩
      by_cases e : j = m
      · subst e
        right
        rw [if_pos (by simpa using h2), h3]
        exact List.mem_singleton.mpr rfl
      · exact Or.inl ⟨j, by omega, h2, h3⟩

theorem len_fulR (n : Nd) : ∀ m, (fulR n m).length ≤ m
  | 0 => by simp [fulR]
  | m + 1 => by
    have := len_fulR n m
    simp only [fulR, List.length_append]
    split <;> simp <;> omega

theorem srt_fulR (n : Nd) : ∀ m, (fulR n m).Pairwise ltR
  | 0 => by simp [fulR]
  | m + 1 => by
    simp only [fulR]
    rw [List.pairwise_append]
    refine ⟨srt_fulR n m, ?_, fun x hx y hy => ?_⟩
    · split
      · exact List.pairwise_singleton _ _
      · exact List.Pairwise.nil
    · obtain ⟨j, h1, _, rfl⟩ := mem_fulR.mp hx
      split at hy
      · rw [List.mem_singleton] at hy
        subst hy
        exact Or.inr ⟨rfl, by show (j : Int) < m; omega⟩
      · cases hy

theorem fulL_cons (n : Nd) (L : List Nd) : fulL (n :: L) = fulR n (2 ^ n.rx) ++ fulL L := by simp [fulL]
theorem fulL_append (L M : List Nd) : fulL (L ++ M) = fulL L ++ fulL M := by simp [fulL]
theorem fulL_one (n : Nd) : fulL [n] = fulR n (2 ^ n.rx) := by simp [fulL]

theorem mem_fulL {L : List Nd} {x : Rf} : x ∈ fulL L ↔ ∃ n ∈ L, x ∈ fulR n (2 ^ n.rx) := by simp [fulL]

theorem srt_fulL {L : List Nd} (g : L.Pairwise (fun a b => a.id < b.id)) : (fulL L).Pairwise ltR := by
  induction L with
  | nil => simp [fulL]
  | cons n L ih =>
    rw [List.pairwise_cons] at g
    rw [fulL_cons, List.pairwise_append]
    refine ⟨srt_fulR _ _, ih g.2, fun x hx y hy => ?_⟩
    obtain ⟨j, _, _, rfl⟩ := mem_fulR.mp hx
    obtain ⟨m, hm, hy'⟩ := mem_fulL.mp hy
    obtain ⟨i, _, _, rfl⟩ := mem_fulR.mp hy'
    have := g.1 m hm
    exact Or.inl (by show (n.id : Int) < m.id; omega)

theorem len_fulL {L : List Nd} (g : ∀ n ∈ L, GoodN n) : (fulL L).length ≤ 16 * L.length := by
  induction L with
  | nil => simp [fulL]
  | cons n L ih =>
    have hn := g n List.mem_cons_self
    have h1 := len_fulR n (2 ^ n.rx)
    have h2 := (pow4 hn.lo hn.hi).2
    have h3 := ih (fun m hm => g m (List.mem_cons_of_mem _ hm))
    rw [fulL_cons, List.length_append, List.length_cons]
    omega

theorem len_full {L : List Nd} (g : GoodL L) : (fulL L).length ≤ 16384 := by
  have h1 := len_fulL g.all
  have h2 := len_le g
  omega

/-- Put in order there is one list. -/
theorem sorted_eqR : ∀ {a b : List Rf}, a.Perm b → a.Pairwise (fun x y => ¬ ltR y x) → b.Pairwise ltR → a = b
  | a, [], hp, _, _ => hp.eq_nil
  | [], y :: b, hp, _, _ => absurd hp.length_eq (by simp)
  | x :: a, y :: b, hp, ha, hb => by
    rw [List.pairwise_cons] at ha hb
    have e : x = y := by
      have hx : x ∈ y :: b := hp.mem_iff.mp List.mem_cons_self
      have hy : y ∈ x :: a := hp.mem_iff.mpr List.mem_cons_self
      rcases List.mem_cons.mp hx with h | h
      · exact h
      · rcases List.mem_cons.mp hy with h' | h'
        · exact h'.symm
        · exact absurd (hb.1 x h) (ha.1 y h')
    subst e
    rw [sorted_eqR hp.cons_inv ha.2 hb.2]

theorem filter_one {L : List Nd} (g : L.Pairwise (fun a b => a.id < b.id)) {P Q : Nd → Bool} {n : Nd} (hn : n ∈ L) (hP : P n = false) (hQ : ∀ m ∈ L, Q m = (P m || decide (m.id = n.id))) : (L.filter Q).Perm (L.filter P ++ [n]) := by
  induction L with
  | nil => cases hn
  | cons a L ih =>
    rw [List.pairwise_cons] at g
    have qa := hQ a List.mem_cons_self
    have hQ' : ∀ m ∈ L, Q m = (P m || decide (m.id = n.id)) := fun m hm => hQ m (List.mem_cons_of_mem _ hm)
    rcases List.mem_cons.mp hn with e | h'
    · subst e
      have hL : L.filter Q = L.filter P := by
        apply List.filter_congr
        intro m hm
        have := g.1 m hm
        rw [hQ' m hm, decide_eq_false (by omega), Bool.or_false]
      rw [List.filter_cons_of_pos (by rw [qa]; simp), List.filter_cons_of_neg (by simpa using hP), hL]
      exact (List.perm_append_singleton _ _).symm
    · have hne : a.id ≠ n.id := by have := g.1 n h'; omega
      rw [decide_eq_false hne, Bool.or_false] at qa
      have := ih g.2 h' hQ'
      cases hp : P a with
      | true =>
        rw [List.filter_cons_of_pos (by rw [qa, hp]), List.filter_cons_of_pos hp]
        exact this.cons _
      | false =>
        rw [List.filter_cons_of_neg (by rw [qa, hp]; simp), List.filter_cons_of_neg (by rw [hp]; simp)]
        exact this

theorem perm_ful {A B : List Nd} (h : A.Perm B) : (fulL A).Perm (fulL B) := h.flatMap_right _

/-- One node more is gone through. -/
theorem ful_step {L : List Nd} (g : GoodL L) {lf lf' : Nat → Bool} {n : Nd} (hn : n ∈ L) (hl : lf n.id = true) (hl' : ∀ j, lf' j = (lf j && !decide (j = n.id))) {acc : List Rf} (h : acc.Perm (fulL (L.filter fun m => !lf m.id))) : (acc ++ fulR n (2 ^ n.rx)).Perm (fulL (L.filter fun m => !lf' m.id)) := by
  have hp : (L.filter fun m => !lf' m.id).Perm (L.filter (fun m => !lf m.id) ++ [n]) := filter_one g.srt hn (by rw [hl]; rfl) (fun m _ => by rw [hl']; cases lf m.id <;> simp)
  refine List.Perm.trans ?_ (perm_ful hp).symm
  rw [fulL_append, fulL_one]
  exact h.append_right _

theorem ful_start {L : List Nd} {lf : Nat → Bool} (h : ∀ n ∈ L, lf n.id = true) : fulL (L.filter fun m => !lf m.id) = [] := by
  rw [List.filter_eq_nil_iff.mpr (fun m hm => by rw [h m hm]; simp)]
  rfl
theorem ful_end {L : List Nd} {lf : Nat → Bool} (h : ∀ n, lf n = false) : fulL (L.filter fun m => !lf m.id) = fulL L := by
  rw [List.filter_eq_self.mpr (fun m _ => by rw [h]; rfl)]

theorem len_acc {L : List Nd} (g : GoodL L) {P : Nd → Bool} {acc : List Rf} (h : acc.Perm (fulL (L.filter P))) : acc.length ≤ 16384 := by
  have h1 : (fulL (L.filter P)).length ≤ 16 * (L.filter P).length := len_fulL (fun n hn => g.all n ((List.mem_filter.mp hn).1))
  have h2 := len_le g
  have h3 : (L.filter P).length ≤ L.length := List.length_filter_le _ _
  rw [h.length_eq]
  omega

end Go.Proofs.Ytibdkadojoeopaa
