/-
  How often a thread stands in queues, over plain data. No program, no statement.
-/
import Derived.Test.YtipfgenbfnkpfaaSdOk
namespace Go.Proofs.Ytipfgenbfnkpfaa
open Go.RowKit

/-- In how many of the first queues it stands. -/
def cntA (S : Sd) (x : Int) : Nat → Int
  | 0 => 0
  | k + 1 => cntA S x k + if x ∈ S.q k then 1 else 0
def cntL (x : Int) : List Int → Int
  | [] => 0
  | y :: l => (if y = x then 1 else 0) + cntL x l
theorem cntL_app (x : Int) (l m : List Int) : cntL x (l ++ m) = cntL x l + cntL x m := by
  induction l with
  | nil => simp [cntL]
  | cons y l ih => simp only [List.cons_append, cntL, ih]; omega
theorem cntL_nd {l : List Int} (h : l.Nodup) (x : Int) : cntL x l = if x ∈ l then 1 else 0 := by
  induction l with
  | nil => simp [cntL]
  | cons y l ih =>
    rw [List.nodup_cons] at h
    simp only [cntL]
    rw [ih h.2]
    by_cases e : y = x
    · subst e
      rw [if_pos rfl, if_neg h.1, if_pos List.mem_cons_self]
      rfl
    · rw [if_neg e]
      by_cases m : x ∈ l
      · rw [if_pos m, if_pos (List.mem_cons_of_mem _ m)]; rfl
      · rw [if_neg m, if_neg (fun hh => by rcases List.mem_cons.mp hh with q | q; exact e q.symm; exact m q)]; rfl
theorem cntL_step (x : Int) (l : List Int) (j : Nat) (y : Int) (h : l[j]? = some y) : cntL x (l.take (j + 1)) = cntL x (l.take j) + if y = x then 1 else 0 := by
  have : l.take (j + 1) = l.take j ++ [y] := by rw [List.take_add_one, h]; rfl
  rw [this, cntL_app]
  simp [cntL]
theorem cntL_bound (x : Int) (l : List Int) : 0 ≤ cntL x l ∧ cntL x l ≤ l.length := by
  induction l with
  | nil => simp [cntL]
  | cons y l ih =>
    simp only [cntL, List.length_cons]
    split <;> omega
theorem cntA_bound (S : Sd) (x : Int) (k : Nat) : 0 ≤ cntA S x k ∧ cntA S x k ≤ k := by
  induction k with
  | zero => simp [cntA]
  | succ k ih =>
    simp only [cntA]
    split <;> omega

theorem cntA_all {S : Sd} (ok : OkQ S) (x : Int) (k : Nat) : cntA S x k = if (∃ t, fnd S.L x = some t ∧ t.a = true ∧ x ≠ S.c ∧ ky t.d t.p < k) then 1 else 0 := by
  induction k with
  | zero => simp [cntA]
  | succ k ih =>
    simp only [cntA]
    rw [ih]
    by_cases hm : x ∈ S.q k
    · obtain ⟨a, t, b, c, d⟩ := (ok.qi.mem k x).1 hm
      have hn : ¬ ∃ t, fnd S.L x = some t ∧ t.a = true ∧ x ≠ S.c ∧ ky t.d t.p < k := by
        rintro ⟨t', b', _, _, d'⟩
        rw [b] at b'
        cases b'
        omega
      have hy : ∃ t, fnd S.L x = some t ∧ t.a = true ∧ x ≠ S.c ∧ ky t.d t.p < k + 1 := ⟨t, b, c, a, by omega⟩
      rw [if_pos hm, if_neg hn, if_pos hy]
      rfl
    · rw [if_neg hm]
      by_cases hh : ∃ t, fnd S.L x = some t ∧ t.a = true ∧ x ≠ S.c ∧ ky t.d t.p < k
      · obtain ⟨t, a, b, c, d⟩ := hh
        rw [if_pos ⟨t, a, b, c, d⟩, if_pos ⟨t, a, b, c, by omega⟩]
        rfl
      · rw [if_neg hh, if_neg]
        · rfl
        · rintro ⟨t, a, b, c, d⟩
          by_cases e : ky t.d t.p = k
          · exact hm ((ok.qi.mem k x).2 ⟨c, t, a, b, e⟩)
          · exact hh ⟨t, a, b, c, by omega⟩

/-- Who is awake is ready once, or is the current one. -/
theorem cntA_end {S : Sd} (ok : OkQ S) {x : Int} (hx : 0 ≤ x) : cntA S x 256 + (if S.c = x then 1 else 0) = if (thrE S x == 0 && (thrC S x).a) = true then 1 else 0 := by
  rw [cntA_all ok]
  cases hf : fnd S.L x with
  | none =>
    have e1 : thrE S x = 150 := by unfold thrE; rw [hf]
    rw [e1, if_neg (by rintro ⟨t, a, _⟩; cases a), if_neg, if_neg (by simp)]
    · rfl
    · intro e
      rcases ok.cu with h | ⟨t, h, _⟩
      · rw [h] at e
        omega
      · rw [e, hf] at h; cases h
  | some t =>
    have e1 : thrE S x = 0 := by unfold thrE; rw [hf]
    have e2 : thrC S x = t := by unfold thrC; rw [hf]; rfl
    have hk := (ok.gl.all t (fnd_mem hf).1).ky
    rw [e1, e2]
    by_cases hc : S.c = x
    · have : t.a = true := by
        rcases ok.cu with h | ⟨t', h, h'⟩
        · have := fnd_pos ok.gl hf; omega
        · rw [hc, hf] at h; cases h; exact h'
      rw [if_pos hc, if_neg (by rintro ⟨_, _, _, h, _⟩; exact h hc.symm), if_pos (by simp [this])]
      rfl
    · rw [if_neg hc]
      cases ha : t.a with
      | true => rw [if_pos ⟨t, rfl, ha, fun e => hc e.symm, hk⟩, if_pos (by simp)]; rfl
      | false =>
        rw [if_neg (by rintro ⟨t', h1, h2, _⟩; cases h1; rw [ha] at h2; cases h2), if_neg (by simp)]
        rfl

end Go.Proofs.Ytipfgenbfnkpfaa
