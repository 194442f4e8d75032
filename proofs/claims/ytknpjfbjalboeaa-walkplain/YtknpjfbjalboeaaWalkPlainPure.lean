/-
  What a memory holds behind entries laid one behind the other, and what a guest whose own table says each page to be itself finds: plain functions. No program, no statement.
-/
import Derived.Test.YtknpjfbjalboeaaWalkLaid
import Derived.Test.YtknpjfbjalboeaaWalkPure
namespace Go.Proofs.Ytknpjfbjalboeaa
open Go.RowKit

theorem length_laidB (P : Nat → Pt) : ∀ n, (laidB P n).length = 64 * 16
  | 0 => List.length_replicate
  | n + 1 => by
    have ih := length_laidB P n
    show (putP (laidB P n) (P n)).length = _
    unfold putP
    repeat' split
    · unfold storeB; repeat' split
      all_goals first | exact ih | (rw [length_putAt]; exact ih)
    · exact ih
    · rw [length_putB]; exact ih

/-- What was laid last at a place is there. -/
theorem half_last (P : Nat → Pt) (k : Nat) (t i : Nat) (v l : Bool) (r f : Int) (ht : t < 16) (hi : i < 32) (hr : rightE v l r f = true) (hk : P k = ⟨(t : Int), (i : Int), v, l, r, f, false, 0⟩) :
    ∀ N, k < N → (∀ j, k < j → j < N → (P j).raw = false ∧ ¬ ((P j).t = (t : Int) ∧ (P j).i = (i : Int))) → ((half (laidB P N) t i : Nat) : Int) = wordE v l r f := by
  intro N
  induction N with
  | zero => intro h; omega
  | succ N ih =>
    intro hN later
    by_cases e : k = N
    · subst e
      show ((half (putP (laidB P k) (P k)) t i : Nat) : Int) = _
      unfold putP
      rw [hk]
      simp only [Bool.false_eq_true, if_false]
      exact half_own (length_laidB P k) (putE_zero.2 ⟨by unfold placeE; rw [if_neg (by omega), if_neg (by omega)], hr⟩) rfl rfl
    · have h1 := ih (by omega) (fun j h1 h2 => later j h1 (by omega))
      obtain ⟨h2, h3⟩ := later N (by omega) (by omega)
      show ((half (putP (laidB P N) (P N)) t i : Nat) : Int) = _
      unfold putP
      rw [if_neg (by simp [h2]), half_else (length_laidB P N) hi (fun h => h3 ⟨h.2.1.symm, h.2.2.symm⟩)]
      exact h1

/-- The list that the law lays. -/
def plP (Q : Nat → Pt) (n : Nat) (second page : Int) : Nat → Pt := fun j =>
  if j < n then Q j else if j = n then ⟨second, 0, true, false, 0, 13, false, 0⟩ else if j = n + 1 then ⟨13, 30, true, true, 1, 14, false, 0⟩ else if j = n + 2 then ⟨13, 31, true, true, 1, 15, false, 0⟩
  else if j = n + 3 then ⟨13, page, true, true, 5, 3, false, 0⟩ else if j = n + 4 then ⟨14, 0, true, false, 0, 31, false, 0⟩ else ⟨15, ((j - n - 5 : Nat) : Int), true, true, 7, ((j - n - 5 : Nat) : Int), false, 0⟩

section
variable (Q : Nat → Pt) (n : Nat) (second page : Int)
theorem plP_old {j : Nat} (h : j < n) : plP Q n second page j = Q j := if_pos h
theorem plP_0 : plP Q n second page n = ⟨second, 0, true, false, 0, 13, false, 0⟩ := by unfold plP; rw [if_neg (by omega), if_pos rfl]
theorem plP_1 : plP Q n second page (n + 1) = ⟨13, 30, true, true, 1, 14, false, 0⟩ := by unfold plP; rw [if_neg (by omega), if_neg (by omega), if_pos rfl]
theorem plP_2 : plP Q n second page (n + 2) = ⟨13, 31, true, true, 1, 15, false, 0⟩ := by unfold plP; rw [if_neg (by omega), if_neg (by omega), if_neg (by omega), if_pos rfl]
theorem plP_3 : plP Q n second page (n + 3) = ⟨13, page, true, true, 5, 3, false, 0⟩ := by unfold plP; rw [if_neg (by omega), if_neg (by omega), if_neg (by omega), if_neg (by omega), if_pos rfl]
theorem plP_4 : plP Q n second page (n + 4) = ⟨14, 0, true, false, 0, 31, false, 0⟩ := by unfold plP; rw [if_neg (by omega), if_neg (by omega), if_neg (by omega), if_neg (by omega), if_neg (by omega), if_pos rfl]
theorem plP_5 (m : Nat) : plP Q n second page (n + 5 + m) = ⟨15, (m : Int), true, true, 7, (m : Int), false, 0⟩ := by
  unfold plP; rw [if_neg (by omega), if_neg (by omega), if_neg (by omega), if_neg (by omega), if_neg (by omega), if_neg (by omega), show n + 5 + m - n - 5 = m by omega]
theorem plP_raw {j : Nat} (h : n ≤ j) : (plP Q n second page j).raw = false := by
  unfold plP; rw [if_neg (by omega)]
  repeat' split
  all_goals rfl
end

theorem pl_later {Q : Nat → Pt} {n : Nat} {second page : Int} {k t i : Nat} (hk : n ≤ k) (hh : ∀ j, k < j → j < n + 37 → ¬ ((plP Q n second page j).t = (t : Int) ∧ (plP Q n second page j).i = (i : Int))) :
    ∀ j, k < j → j < n + 37 → (plP Q n second page j).raw = false ∧ ¬ ((plP Q n second page j).t = (t : Int) ∧ (plP Q n second page j).i = (i : Int)) :=
  fun j a b => ⟨plP_raw Q n second page (by omega), hh j a b⟩

theorem pl_cases {Q : Nat → Pt} {n : Nat} {second page : Int} {j : Nat} (h : n < j) (hj : j < n + 37) : (j = n + 1 ∧ (plP Q n second page j).t = 13 ∧ (plP Q n second page j).i = 30) ∨ (j = n + 2 ∧ (plP Q n second page j).t = 13 ∧ (plP Q n second page j).i = 31) ∨
    (j = n + 3 ∧ (plP Q n second page j).t = 13 ∧ (plP Q n second page j).i = page) ∨ (j = n + 4 ∧ (plP Q n second page j).t = 14 ∧ (plP Q n second page j).i = 0) ∨ (n + 5 ≤ j ∧ (plP Q n second page j).t = 15 ∧ (plP Q n second page j).i = (j : Int) - n - 5) := by
  have hc : j = n + 1 ∨ j = n + 2 ∨ j = n + 3 ∨ j = n + 4 ∨ n + 5 ≤ j := by omega
  rcases hc with rfl | rfl | rfl | rfl | hc
  · rw [plP_1]; exact Or.inl ⟨rfl, rfl, rfl⟩
  · rw [plP_2]; exact Or.inr (Or.inl ⟨rfl, rfl, rfl⟩)
  · rw [plP_3]; exact Or.inr (Or.inr (Or.inl ⟨rfl, rfl, rfl⟩))
  · rw [plP_4]; exact Or.inr (Or.inr (Or.inr (Or.inl ⟨rfl, rfl, rfl⟩)))
  · obtain ⟨m, rfl⟩ : ∃ m, j = n + 5 + m := ⟨j - (n + 5), by omega⟩
    rw [plP_5]
    exact Or.inr (Or.inr (Or.inr (Or.inr ⟨hc, rfl, by show (m : Int) = _; omega⟩)))

theorem pl_halves {Q : Nat → Pt} {n : Nat} {second page : Int} (h0 : 0 ≤ second) (h1 : second ≤ 12) (g0 : 0 ≤ page) (g1 : page ≤ 29) : (∀ s : Nat, (s : Int) = second → ((half (laidB (plP Q n second page) (n + 37)) s 0 : Nat) : Int) = wordE true false 0 13) ∧ ((half (laidB (plP Q n second page) (n + 37)) 13 30 : Nat) : Int) = wordE true true 1 14 ∧
    ((half (laidB (plP Q n second page) (n + 37)) 13 31 : Nat) : Int) = wordE true true 1 15 ∧ (∀ g : Nat, (g : Int) = page → ((half (laidB (plP Q n second page) (n + 37)) 13 g : Nat) : Int) = wordE true true 5 3) ∧
    ((half (laidB (plP Q n second page) (n + 37)) 14 0 : Nat) : Int) = wordE true false 0 31 ∧ (∀ g : Nat, (g : Int) = page → ((half (laidB (plP Q n second page) (n + 37)) 15 g : Nat) : Int) = wordE true true 7 page) := by
  have C : ∀ j, n < j → j < n + 37 → _ := fun j a b => pl_cases (Q := Q) (second := second) (page := page) a b
  refine ⟨fun s hs => ?_, ?_, ?_, fun g hg => ?_, ?_, fun g hg => ?_⟩
  · exact half_last _ n s 0 true false 0 13 (by omega) (by omega) rfl (by rw [plP_0, hs]; rfl) _ (by omega) (pl_later (by omega) (fun j a b h => by
      rcases C j a b with ⟨_, e, _⟩ | ⟨_, e, _⟩ | ⟨_, e, _⟩ | ⟨_, e, _⟩ | ⟨_, e, _⟩ <;> omega))
  · exact half_last _ (n + 1) 13 30 true true 1 14 (by omega) (by omega) rfl (by rw [plP_1]; rfl) _ (by omega) (pl_later (by omega) (fun j a b h => by
      rcases C j (by omega) b with ⟨_, e, _⟩ | ⟨_, e, e'⟩ | ⟨_, e, e'⟩ | ⟨_, e, _⟩ | ⟨_, e, _⟩ <;> omega))
  · exact half_last _ (n + 2) 13 31 true true 1 15 (by omega) (by omega) rfl (by rw [plP_2]; rfl) _ (by omega) (pl_later (by omega) (fun j a b h => by
      rcases C j (by omega) b with ⟨_, e, _⟩ | ⟨_, e, e'⟩ | ⟨_, e, e'⟩ | ⟨_, e, _⟩ | ⟨_, e, _⟩ <;> omega))
  · exact half_last _ (n + 3) 13 g true true 5 3 (by omega) (by omega) rfl (by rw [plP_3, hg]; rfl) _ (by omega) (pl_later (by omega) (fun j a b h => by
      rcases C j (by omega) b with ⟨_, e, _⟩ | ⟨_, e, e'⟩ | ⟨_, e, e'⟩ | ⟨_, e, _⟩ | ⟨_, e, _⟩ <;> omega))
  · exact half_last _ (n + 4) 14 0 true false 0 31 (by omega) (by omega) rfl (by rw [plP_4]; rfl) _ (by omega) (pl_later (by omega) (fun j a b h => by
      rcases C j (by omega) b with ⟨_, e, _⟩ | ⟨_, e, e'⟩ | ⟨_, e, e'⟩ | ⟨_, e, _⟩ | ⟨_, e, _⟩ <;> omega))
  · have hr : rightE true true 7 page = true := by simp [rightE]; omega
    exact half_last _ (n + 5 + g) 15 g true true 7 page (by omega) (by omega) hr (by rw [plP_5, hg]; rfl) _ (by omega) (pl_later (by omega) (fun j a b h => by
      rcases C j (by omega) b with ⟨_, e, _⟩ | ⟨_, e, e'⟩ | ⟨_, e, e'⟩ | ⟨_, e, _⟩ | ⟨_, e, e'⟩ <;> omega))

theorem usable_node {r f : Int} (h : rightE true false r f = true) : usable (wordE true false r f) 0 = true := by
  obtain ⟨a, b, _⟩ := dec_back h
  simp [usable, a, b]
theorem usable_leaf {r f : Int} (h : rightE true true r f = true) : usable (wordE true true r f) 1 = true := by
  obtain ⟨a, b, _⟩ := dec_back h
  simp [usable, a, b]

/-- One table's walk through a node and a leaf. -/
theorem single_eq {bs : List UInt8} {root page t r f : Int} (hp : isP page = true) (hb : ¬ (root < 0 ∨ (16 : Int) ≤ root)) (ht : 0 ≤ t ∧ t < 16) (hr : rightE true true r f = true)
    (e0 : ew bs root page 0 = wordE true false 0 t) (e1 : ew bs t page 1 = wordE true true r f) : single bs 16 root page = ⟨f, r, f0⟩ := by
  have hn : rightE true false 0 t = true := by simp [rightE]; omega
  have d0 := (dec_back hn).2.2.2.1
  have d1 := (dec_back hr).2.2
  have k0 : entK bs 16 root page 0 = 0 := entK_mk hb (by rw [e0]; exact usable_node hn)
  have k1 : entK bs 16 t page 1 = 0 := entK_mk (by omega) (by rw [e1]; exact usable_leaf hr)
  unfold single
  rw [hp, e0, d0, e1, k0, k1, d1.1, d1.2.1]
  simp

theorem isR_and {want : Int} (h : isR want = true) : bits .and .i64 7 want ≠ 0 := by
  rcases isR_iff.1 h with rfl | rfl | rfl <;> decide
theorem and_07 : bits .and .i64 0 7 = 0 := by decide
theorem and_57 : bits .and .i64 5 7 = 5 := by decide
theorem and_11 : bits .and .i64 1 1 ≠ 0 := by decide

/-- What the law asks of both walks. -/
theorem plain_pure {Q : Nat → Pt} {n : Nat} {second page want : Int} (h0 : 0 ≤ second) (h1 : second ≤ 12) (g0 : 0 ≤ page) (g1 : page ≤ 29) (bs : List UInt8) (hbs : laidB (plP Q n second page) (n + 37) = bs) :
    ((nested bs 16 (-1) second page want).fr = (nested bs 16 30 second page want).fr ∧ (nested bs 16 (-1) second page want).ri = (nested bs 16 30 second page want).ri ∧ (nested bs 16 (-1) second page want).ft.k = (nested bs 16 30 second page want).ft.k ∧ (nested bs 16 (-1) second page want).ft.p = (nested bs 16 30 second page want).ft.p) ∧
    ((nested bs 16 (-1) second page want).ft.k = 0 → (nested bs 16 (-1) second page want).fr = (single bs 16 second page).fr ∧ (nested bs 16 (-1) second page want).ri = (single bs 16 second page).ri ∧ (single bs 16 second page).ft.k = 0) := by
  obtain ⟨a1, a2, a3, a4, a5, a6⟩ := pl_halves (Q := Q) (n := n) h0 h1 g0 g1
  rw [hbs] at a1 a2 a3 a4 a5 a6
  have hp : isP page = true := by simp [isP]; omega
  have root : ∀ p : Int, 0 ≤ p → p ≤ 31 → ew bs second p 0 = wordE true false 0 13 := fun p x y => by
    unfold ew
    rw [show idxOf p 0 = 0 by unfold idxOf; rw [if_neg (by omega), if_pos rfl]; omega]
    exact a1 second.toNat (by omega)
  have l30 : ew bs 13 30 1 = wordE true true 1 14 := a2
  have l31 : ew bs 13 31 1 = wordE true true 1 15 := a3
  have lp : ew bs 13 page 1 = wordE true true 5 3 := by
    unfold ew
    rw [show idxOf page 1 = page by unfold idxOf; rw [if_neg (by omega), if_neg (by omega), if_pos rfl]; omega]
    exact a4 page.toNat (by omega)
  have n14 : ew bs 14 page 0 = wordE true false 0 31 := by
    unfold ew
    rw [show idxOf page 0 = 0 by unfold idxOf; rw [if_neg (by omega), if_pos rfl]; omega]
    exact a5
  have l15 : ew bs 15 page 1 = wordE true true 7 page := by
    unfold ew
    rw [show idxOf page 1 = page by unfold idxOf; rw [if_neg (by omega), if_neg (by omega), if_pos rfl]; omega]
    exact a6 page.toNat (by omega)
  have s30 : single bs 16 second 30 = ⟨14, 1, f0⟩ := single_eq rfl (by omega) (by omega) rfl (root 30 (by omega) (by omega)) l30
  have s31 : single bs 16 second 31 = ⟨15, 1, f0⟩ := single_eq rfl (by omega) (by omega) rfl (root 31 (by omega) (by omega)) l31
  have sp : single bs 16 second page = ⟨3, 5, f0⟩ := single_eq hp (by omega) (by omega) rfl (root page (by omega) (by omega)) lp
  have k30 : granted bs 16 second 30 1 = ⟨14, 1, f0⟩ := by rw [granted_mk (by rw [s30]; rfl) (by rw [s30]; exact and_11), s30]
  have k31 : granted bs 16 second 31 1 = ⟨15, 1, f0⟩ := by rw [granted_mk (by rw [s31]; rfl) (by rw [s31]; exact and_11), s31]
  have y30 : lies bs 16 second 30 = ⟨14, 1, f0⟩ := by unfold lies; rw [k30]; rfl
  have y31 : lies bs 16 second 31 = ⟨15, 1, f0⟩ := by unfold lies; rw [k31]; rfl
  have hn : rightE true false 0 31 = true := rfl
  have hr : rightE true true 7 page = true := by simp [rightE]; omega
  have u0 : guest bs 16 second 30 page 0 = ⟨31, 0, f0⟩ := by
    unfold guest
    rw [y30, if_neg (by simp [f0]), entK_mk (t := 14) (by omega) (by rw [n14]; exact usable_node hn), n14, (dec_back hn).2.2.2.1, (dec_back hn).2.2.1]
    simp
  have u1 : guest bs 16 second 31 page 1 = ⟨page, 7, f0⟩ := by
    unfold guest
    rw [y31, if_neg (by simp [f0]), entK_mk (t := 15) (by omega) (by rw [l15]; exact usable_leaf hr), l15, (dec_back hr).2.2.2.1, (dec_back hr).2.2.1]
    simp
  cases hw : isR want with
  | false =>
    have e1 : ∀ first, nested bs 16 first second page want = miss 3 0 0 false 0 := fun first => by unfold nested; rw [if_pos (Or.inr hw)]
    rw [e1, e1]
    exact ⟨⟨rfl, rfl, rfl, rfl⟩, fun h => absurd h (by decide)⟩
  | true =>
    have e1 : nested bs 16 (-1) second page want = granted bs 16 second page want := by unfold nested; rw [if_neg (by simp [hp, hw]), if_pos (by omega)]
    have e2 : nested bs 16 30 second page want = ⟨(granted bs 16 second page want).fr, bits .and .i64 (granted bs 16 second page want).ri 7, (granted bs 16 second page want).ft⟩ := by
      unfold nested
      rw [if_neg (by simp [hp, hw]), if_neg (by omega), u0]
      simp only [f0, ne_eq, not_true_eq_false, if_false]
      rw [u1]
      simp only [f0, not_true_eq_false, if_false]
      rw [if_neg (isR_and hw)]
    rw [e1, e2]
    by_cases hb : bits .and .i64 5 want = 0
    · have e3 : granted bs 16 second page want = miss 2 2 1 false page := by unfold granted; rw [sp, if_neg (by simp [f0]), if_pos hb]
      rw [e3]
      exact ⟨⟨rfl, by simp only [miss]; exact and_07.symm, rfl, rfl⟩, fun h => absurd (show (2 : Int) = 0 from h) (by decide)⟩
    · have e3 : granted bs 16 second page want = ⟨3, 5, f0⟩ := by rw [granted_mk (by rw [sp]; rfl) (by rw [sp]; exact hb), sp]
      rw [e3, sp]
      exact ⟨⟨rfl, and_57.symm, rfl, rfl⟩, fun _ => ⟨rfl, rfl, rfl⟩⟩

end Go.Proofs.Ytknpjfbjalboeaa
