/-
  A place's descendants in the list of places: what the iterator goes through. No statement is proved here.
-/
import Derived.Test.YtjopmhidldemmaaCdtBelow
import Derived.Test.YtjopmhidldemmaaCdtOwn
namespace Go.Proofs.Ytjopmhidldemmaa
open Go.RowKit Go.Shelf

def runP (d : Int) : List Pl → List Pl
  | [] => []
  | x :: X => if d < x.e.d then x :: runP d X else []
def restP (d : Int) : List Pl → List Pl
  | [] => []
  | x :: X => if d < x.e.d then restP d X else x :: X
theorem runP_restP (d : Int) : ∀ X : List Pl, runP d X ++ restP d X = X
  | [] => rfl
  | x :: X => by
    unfold runP restP
    split
    · simp [runP_restP d X]
    · rfl
theorem runP_map (d : Int) : ∀ X : List Pl, (runP d X).map (·.e) = runF d (X.map (·.e))
  | [] => rfl
  | x :: X => by
    simp only [runP, List.map_cons, runF]
    split
    · simp [runP_map d X]
    · rfl
theorem restP_map (d : Int) : ∀ X : List Pl, (restP d X).map (·.e) = restF d (X.map (·.e))
  | [] => rfl
  | x :: X => by
    simp only [restP, List.map_cons, restF]
    split
    · simp [restP_map d X]
    · rfl
theorem runP_deep {d : Int} {X : List Pl} {x : Pl} (h : x ∈ runP d X) : d < x.e.d := by
  have : x.e ∈ runF d (X.map (·.e)) := by rw [← runP_map]; exact List.mem_map.2 ⟨x, h, rfl⟩
  exact runF_deep this
theorem restP_head {d : Int} : ∀ {X Z : List Pl} {x : Pl}, restP d X = x :: Z → x.e.d ≤ d
  | [], _, _, h => by cases h
  | y :: X, Z, x, h => by
    unfold restP at h
    split at h
    · exact restP_head h
    · cases h; omega

/-- The k-th place's block, its depth; where the next one lies. -/
def bAt (C : List Pl) (k : Nat) : Nat := match C[k]? with
  | some x => x.b
  | none => 0
def dAt (C : List Pl) (k : Nat) : Int := match C[k]? with
  | some x => x.e.d
  | none => 0
def nAt (C : List Pl) (k : Nat) : Option Addr := hd (C.drop k) none

theorem bAt_eq {C : List Pl} {k : Nat} {x : Pl} (h : C[k]? = some x) : bAt C k = x.b := by simp [bAt, h]
theorem dAt_eq {C : List Pl} {k : Nat} {x : Pl} (h : C[k]? = some x) : dAt C k = x.e.d := by simp [dAt, h]
theorem nAt_eq {C : List Pl} {k : Nat} {x : Pl} (h : C[k]? = some x) : nAt C k = ad x.b := by
  obtain ⟨hk, e⟩ := List.getElem?_eq_some_iff.1 h
  unfold nAt
  rw [List.drop_eq_getElem_cons hk, e]
  rfl
theorem nAt_end {C : List Pl} : nAt C C.length = none := by simp [nAt, hd]

theorem seq_in (d : Int) (C : List Pl) : ∀ k, k < (runP d C).length → nAt C k = ad (bAt C k) ∧ d < dAt C k := by
  intro k hk
  have hC : C[k]? = some (runP d C)[k] := by
    conv => lhs; rw [← runP_restP d C]
    rw [List.getElem?_append_left hk, List.getElem?_eq_getElem hk]
  rw [nAt_eq hC, bAt_eq hC, dAt_eq hC]
  exact ⟨rfl, runP_deep (List.getElem_mem hk)⟩
theorem seq_out (d : Int) (C : List Pl) : nAt C (runP d C).length = none ∨ ∃ b, nAt C (runP d C).length = ad b ∧ dAt C (runP d C).length ≤ d := by
  cases hr : restP d C with
  | nil =>
    left
    have := runP_restP d C
    rw [hr, List.append_nil] at this
    rw [this]
    exact nAt_end
  | cons x Z =>
    right
    have hC : C[(runP d C).length]? = some x := by
      generalize hm : (runP d C).length = m
      rw [← runP_restP d C, List.getElem?_append_right (by omega), hr, hm, Nat.sub_self]
      rfl
    rw [nAt_eq hC, dAt_eq hC]
    exact ⟨x.b, rfl, restP_head hr⟩
theorem seq_inj {C : List Pl} (nd : (C.map (·.b)).Nodup) : ∀ j k, j ≤ C.length → k ≤ C.length → nAt C j = nAt C k → j = k := by
  intro j k hj hk e
  rcases Nat.lt_or_ge j C.length with h1 | h1
  · rcases Nat.lt_or_ge k C.length with h2 | h2
    · rw [nAt_eq (List.getElem?_eq_getElem h1), nAt_eq (List.getElem?_eq_getElem h2)] at e
      have e' : C[j].b = C[k].b := by simpa using e
      exact (List.getElem?_inj (by simpa using h1) nd).1 (by rw [List.getElem?_map, List.getElem?_map, List.getElem?_eq_getElem h1, List.getElem?_eq_getElem h2]; simp [e'])
    · obtain rfl : k = C.length := by omega
      rw [nAt_eq (List.getElem?_eq_getElem h1), nAt_end] at e
      cases e
  · obtain rfl : j = C.length := by omega
    rcases Nat.lt_or_ge k C.length with h2 | h2
    · rw [nAt_eq (List.getElem?_eq_getElem h2), nAt_end] at e
      cases e
    · omega
theorem run_le (d : Int) (C : List Pl) : (runP d C).length ≤ C.length := by
  have := congrArg List.length (runP_restP d C)
  simp at this
  omega

theorem Ch.drop {w : World} {p q : Option Addr} {C : List Pl} (h : Ch w p C q) (k : Nat) : ∃ p', Ch w p' (C.drop k) q := by
  have : Ch w p (C.take k ++ C.drop k) q := by rw [List.take_append_drop]; exact h
  exact ⟨_, (ch_app.1 this).2⟩
theorem Ch.nth {w : World} {p : Option Addr} {C : List Pl} (h : Ch w p C none) {k : Nat} {x : Pl} (hk : C[k]? = some x) : ∃ p', Row w x.b (plC x.e p' (nAt C (k + 1))) 47 := by
  obtain ⟨hl, e⟩ := List.getElem?_eq_some_iff.1 hk
  obtain ⟨p', h'⟩ := h.drop k
  rw [List.drop_eq_getElem_cons hl, e] at h'
  exact ⟨p', h'.1⟩

/-- Where the places lie as they lay, the iterator has what it needs. -/
theorem need_of {w : World} {p : Option Addr} {x : Pl} {C : List Pl} (h : Ch w p (x :: C) none) {bb : Nat} (hb : w.cell? ⟨bb, 0, none⟩ = some (pv x.b)) {k : Nat} (hk : k ≤ C.length) : Nd13 bb x.b x.e.d (bAt C) (nAt C) (dAt C) k w := by
  refine ⟨hb, (pl5 h.1).2.2.1, ?_, fun b e => ?_⟩
  · cases k with
    | zero => exact (pl5 h.1).2.2.2.2
    | succ j =>
      have hj : C[j]? = some C[j] := List.getElem?_eq_getElem (by omega)
      obtain ⟨p', hr⟩ := h.2.nth hj
      show w.cell? ⟨bAt C j, 4, none⟩ = _
      rw [bAt_eq hj]
      exact (pl5 hr).2.2.2.2
  · rcases Nat.lt_or_ge k C.length with hl | hl
    · have hj : C[k]? = some C[k] := List.getElem?_eq_getElem hl
      obtain ⟨p', hr⟩ := h.2.nth hj
      rw [nAt_eq hj] at e
      cases e
      rw [dAt_eq hj]
      exact (pl5 hr).2.2.1
    · obtain rfl : k = C.length := by omega
      rw [nAt_end] at e
      cases e

/-- The iterator at a place. -/
theorem below_seq (n bb : Nat) (x : Pl) (C : List Pl) (nd : (C.map (·.b)).Nodup) :
    Seq13 n 39 #[.pointer (some ⟨bb, 0, none⟩)] (runP x.e.d C).length (fun k => #[pv (bAt C k)]) (Nd13 bb x.b x.e.d (bAt C) (nAt C) (dAt C)) :=
  below1_seq n bb x.b x.e.d _ _ _ _ (seq_in x.e.d C) (seq_out x.e.d C) (fun j k hj hk => seq_inj nd j k (Nat.le_trans hj (run_le _ _)) (Nat.le_trans hk (run_le _ _)))
theorem enters45 : ∀ args w, (callFunc 39 args).run Try.prog w = .ok (.enter 39 args) w := enters_of Try.func39 (by kernel_rfl) rfl

end Go.Proofs.Ytjopmhidldemmaa
