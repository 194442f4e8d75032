/-
  What a walk tells, as plain functions of the memory's half words: faults as numbers, one table's walk, a wanted right, both tables' walk. No program, no statement.
-/
import Derived.Test.YtgnoakidjnilpaaGreatPteMem
import Derived.Test.YtgnoakidjnilpaaGreatPteHalf
namespace Go.Proofs.YtgnoakidjnilpaaGreat
open Go.RowKit

/-- A fault: kind, stage, level, whether within the walk, page. -/
structure Ft where (k s l : Int) (wk : Bool) (p : Int)
/-- What a walk tells: frame, rights, fault. -/
structure Res where (fr ri : Int) (ft : Ft)

def f0 : Ft := ⟨0, 0, 0, false, 0⟩
/-- Whether a number is a right that can be wanted. -/
def isR (n : Int) : Bool := n == 1 || (n == 2 || n == 4)
def isP (n : Int) : Bool := decide (0 ≤ n) && decide (n ≤ 1023)
def feq (x y : Ft) : Bool := x.k == y.k && (x.s == y.s && (x.l == y.l && (x.wk == y.wk && x.p == y.p)))

/-- The half word of a page's entry at a level. -/
def ew (bs : List UInt8) (t page lvl : Int) : Int := ((half bs t.toNat (idxOf page lvl).toNat : Nat) : Int)
/-- Whether that half word can be used at that level. -/
def usable (x lvl : Int) : Bool := dv x && (dl x == decide (lvl = 1))
def entK (bs : List UInt8) (nf : Nat) (t page lvl : Int) : Int :=
  if t < 0 ∨ (nf : Int) ≤ t then 3 else if usable (ew bs t page lvl) lvl = true then 0 else 1

def miss (k s l : Int) (wk : Bool) (p : Int) : Res := ⟨0, 0, ⟨k, s, l, wk, p⟩⟩

def single (bs : List UInt8) (nf : Nat) (root page : Int) : Res :=
  if isP page = false then miss 3 0 0 false 0
  else if entK bs nf root page 0 ≠ 0 then miss (entK bs nf root page 0) 2 0 false page
  else if entK bs nf (df (ew bs root page 0)) page 1 ≠ 0 then miss (entK bs nf (df (ew bs root page 0)) page 1) 2 1 false page
  else ⟨df (ew bs (df (ew bs root page 0)) page 1), dr (ew bs (df (ew bs root page 0)) page 1), f0⟩

def granted (bs : List UInt8) (nf : Nat) (root page want : Int) : Res :=
  if (single bs nf root page).ft.k ≠ 0 then single bs nf root page
  else if bits .and .i64 (single bs nf root page).ri want = 0 then miss 2 2 1 false page
  else single bs nf root page

/-- Where a guest's table lies, that is named by a page of the guest. -/
def lies (bs : List UInt8) (nf : Nat) (second table : Int) : Res :=
  if (granted bs nf second table 1).ft.k ≠ 0 then ⟨0, 0, ⟨(granted bs nf second table 1).ft.k, (granted bs nf second table 1).ft.s, (granted bs nf second table 1).ft.l, true, (granted bs nf second table 1).ft.p⟩⟩
  else granted bs nf second table 1

def guest (bs : List UInt8) (nf : Nat) (second table page lvl : Int) : Res :=
  if (lies bs nf second table).ft.k ≠ 0 then lies bs nf second table
  else if entK bs nf (lies bs nf second table).fr page lvl ≠ 0 then miss (entK bs nf (lies bs nf second table).fr page lvl) 1 lvl false page
  else ⟨df (ew bs (lies bs nf second table).fr page lvl), dr (ew bs (lies bs nf second table).fr page lvl), f0⟩

def nested (bs : List UInt8) (nf : Nat) (first second page want : Int) : Res :=
  if isP page = false ∨ isR want = false then miss 3 0 0 false 0
  else if first < 0 then granted bs nf second page want
  else if (guest bs nf second first page 0).ft.k ≠ 0 then guest bs nf second first page 0
  else if (guest bs nf second (guest bs nf second first page 0).fr page 1).ft.k ≠ 0 then guest bs nf second (guest bs nf second first page 0).fr page 1
  else if bits .and .i64 (guest bs nf second (guest bs nf second first page 0).fr page 1).ri want = 0 then miss 2 1 1 false page
  else ⟨(granted bs nf second (guest bs nf second (guest bs nf second first page 0).fr page 1).fr want).fr,
    bits .and .i64 (granted bs nf second (guest bs nf second (guest bs nf second first page 0).fr page 1).fr want).ri (guest bs nf second (guest bs nf second first page 0).fr page 1).ri,
    (granted bs nf second (guest bs nf second (guest bs nf second first page 0).fr page 1).fr want).ft⟩

theorem feq_iff {x y : Ft} : feq x y = true ↔ x = y := by
  obtain ⟨a, b, c, d, e⟩ := x
  obtain ⟨a', b', c', d', e'⟩ := y
  simp [feq]

theorem feq_refl (x : Ft) : feq x x = true := feq_iff.2 rfl

theorem isP_iff {n : Int} : isP n = true ↔ 0 ≤ n ∧ n ≤ 1023 := by simp [isP]
theorem isR_iff {n : Int} : isR n = true ↔ n = 1 ∨ n = 2 ∨ n = 4 := by simp [isR]

theorem entK_cases (bs : List UInt8) (nf : Nat) (t page lvl : Int) : (entK bs nf t page lvl = 3 ∧ (t < 0 ∨ (nf : Int) ≤ t)) ∨ (entK bs nf t page lvl = 0 ∧ ¬ (t < 0 ∨ (nf : Int) ≤ t) ∧ usable (ew bs t page lvl) lvl = true) ∨ (entK bs nf t page lvl = 1 ∧ ¬ (t < 0 ∨ (nf : Int) ≤ t) ∧ usable (ew bs t page lvl) lvl = false) := by
  unfold entK
  by_cases h : t < 0 ∨ (nf : Int) ≤ t
  · exact Or.inl ⟨if_pos h, h⟩
  · rw [if_neg h]
    cases hu : usable (ew bs t page lvl) lvl with
    | true => exact Or.inr (Or.inl ⟨if_pos rfl, h, rfl⟩)
    | false => exact Or.inr (Or.inr ⟨by simp, h, rfl⟩)

theorem single_zero (bs : List UInt8) (nf : Nat) (root page : Int) (h : (single bs nf root page).ft.k ≠ 0) : (single bs nf root page).fr = 0 ∧ (single bs nf root page).ri = 0 := by
  unfold single at h ⊢
  split at h
  · rename_i h1; rw [if_pos h1]; exact ⟨rfl, rfl⟩
  · rename_i h1
    rw [if_neg h1]
    split at h
    · rename_i h2; rw [if_pos h2]; exact ⟨rfl, rfl⟩
    · rename_i h2
      rw [if_neg h2]
      split at h
      · rename_i h3; rw [if_pos h3]; exact ⟨rfl, rfl⟩
      · exact absurd rfl h

theorem granted_zero (bs : List UInt8) (nf : Nat) (root page want : Int) (h : (granted bs nf root page want).ft.k ≠ 0) : (granted bs nf root page want).fr = 0 ∧ (granted bs nf root page want).ri = 0 := by
  unfold granted at h ⊢
  split at h
  · rename_i h1; rw [if_pos h1]; exact single_zero bs nf root page h1
  · rename_i h1
    rw [if_neg h1]
    split at h
    · rename_i h2; rw [if_pos h2]; exact ⟨rfl, rfl⟩
    · exact absurd h h1

theorem Res.eta (x : Res) : x = ⟨x.fr, x.ri, x.ft⟩ := rfl

end Go.Proofs.YtgnoakidjnilpaaGreat
