/-
  Names, depths and lists of them as plain data: what package cdt's calls answer and leave. No program, no statement.
-/
import Derived.Test.YtjopmhidldemmaaBase
namespace Go.Proofs.Ytjopmhidldemmaa
open Go.RowKit

def I64 (x : Int) : Prop := -9223372036854775808 ≤ x ∧ x ≤ 9223372036854775807

/-- A fact that the walk shall not see. -/
structure Hid (p : Prop) : Prop where
  out : p

/-- A slot's name. -/
structure Rf where
  n : Int
  i : Int
deriving DecidableEq

def Rf.Ok (a : Rf) : Prop := I64 a.n ∧ I64 a.i
theorem Rf.ext' {a b : Rf} (h1 : a.n = b.n) (h2 : a.i = b.i) : a = b := by cases a; cases b; simp_all

/-- A name and its depth. -/
structure En where
  a : Rf
  d : Int
deriving DecidableEq

def rf0 : Rf := ⟨0, 0⟩
def top0 : En := ⟨rf0, -1⟩

/-- Which entry has the name. -/
def hasF (F : List En) (a : Rf) : Bool := F.any fun e => decide (e.a = a)

def addF (a : Rf) (F : List En) : List En := ⟨a, 0⟩ :: F
def kidF (p a : Rf) : List En → List En
  | [] => []
  | e :: F => if e.a = p then e :: ⟨a, e.d + 1⟩ :: F else e :: kidF p a F
/-- Those that come first and are deeper. -/
def runF (d : Int) : List En → List En
  | [] => []
  | e :: F => if d < e.d then e :: runF d F else []
def restF (d : Int) : List En → List En
  | [] => []
  | e :: F => if d < e.d then restF d F else e :: F
def up1 (e : En) : En := ⟨e.a, e.d - 1⟩
def remF (a : Rf) : List En → List En
  | [] => []
  | e :: F => if e.a = a then (runF e.d F).map up1 ++ restF e.d F else e :: remF a F
def nm1 (a b : Rf) (e : En) : En := if e.a = a then ⟨b, e.d⟩ else e
def movF (a b : Rf) (F : List En) : List En := F.map (nm1 a b)
def nm2 (a b : Rf) (e : En) : En := if e.a = a then ⟨b, e.d⟩ else if e.a = b then ⟨a, e.d⟩ else e
def swpF (a b : Rf) (F : List En) : List En := F.map (nm2 a b)
def depF (a : Rf) : List En → Int
  | [] => -1
  | e :: F => if e.a = a then e.d else depF a F
def desF (a : Rf) : List En → List Rf
  | [] => []
  | e :: F => if e.a = a then (runF e.d F).map (·.a) else desF a F
def belF (a b : Rf) (F : List En) : Bool := decide (b ∈ desF a F)
/-- The nearest one ahead that is less deep (the list: those ahead, the nearest first). -/
def nearF (d : Int) : List En → En
  | [] => top0
  | e :: F => if d ≤ e.d then nearF d F else e
def parF (a : Rf) : List En → List En → Rf × Bool
  | _, [] => (rf0, false)
  | A, e :: F => if e.a = a then ((nearF e.d A).a, decide (0 ≤ (nearF e.d A).d)) else parF a (e :: A) F

theorem runF_restF (d : Int) : ∀ F : List En, runF d F ++ restF d F = F
  | [] => rfl
  | e :: F => by
    unfold runF restF
    split
    · simp [runF_restF d F]
    · rfl
theorem runF_deep {d : Int} : ∀ {F : List En} {e : En}, e ∈ runF d F → d < e.d
  | [], e, h => by cases h
  | x :: F, e, h => by
    unfold runF at h
    split at h
    · rcases List.mem_cons.1 h with rfl | h
      · assumption
      · exact runF_deep h
    · cases h
theorem restF_head {d : Int} : ∀ {F G : List En} {e : En}, restF d F = e :: G → e.d ≤ d
  | [], _, _, h => by cases h
  | x :: F, G, e, h => by
    unfold restF at h
    split at h
    · exact restF_head h
    · cases h; omega

/-- The depths rise by one at most, and the first is less than the number. -/
def Steps : Int → List En → Prop
  | _, [] => True
  | d, e :: F => 0 ≤ e.d ∧ e.d ≤ d + 1 ∧ Steps e.d F

structure Wf (F : List En) : Prop where
  st : Steps (-1) F
  nd : (F.map (·.a)).Nodup
  ok : ∀ e ∈ F, e.a.Ok

theorem Steps.mono : ∀ {F : List En} {d d' : Int}, Steps d F → d ≤ d' → Steps d' F
  | [], _, _, _, _ => trivial
  | _ :: _, _, _, ⟨h0, h1, h2⟩, h => ⟨h0, by omega, h2⟩
theorem Steps.ge : ∀ {F : List En} {d : Int}, Steps d F → ∀ e ∈ F, 0 ≤ e.d
  | [], _, _, _, h => by cases h
  | x :: F, d, ⟨h0, _, h2⟩, e, h => by
    rcases List.mem_cons.1 h with rfl | h
    · exact h0
    · exact h2.ge e h
theorem Steps.le : ∀ {F : List En} {d : Int}, Steps d F → ∀ e ∈ F, e.d ≤ d + F.length
  | [], _, _, _, h => by cases h
  | x :: F, d, ⟨_, h1, h2⟩, e, h => by
    rcases List.mem_cons.1 h with rfl | h
    · simp; omega
    · have := h2.le e h
      simp
      omega
theorem Steps.app : ∀ {A C : List En} {d : Int}, Steps d (A ++ C) → Steps d A
  | [], _, _, _ => trivial
  | _ :: _, _, _, ⟨h0, h1, h2⟩ => ⟨h0, h1, Steps.app h2⟩

/-- A name that is there, and what lies ahead of it and behind it. -/
theorem has_split {a : Rf} : ∀ {F : List En}, hasF F a = true → ∃ A e C, F = A ++ e :: C ∧ e.a = a ∧ hasF A a = false
  | [], h => by cases h
  | x :: F, h => by
    by_cases hx : x.a = a
    · exact ⟨[], x, F, rfl, hx, rfl⟩
    · have h' : hasF F a = true := by simpa [hasF, hx] using h
      obtain ⟨A, e, C, rfl, he, hA⟩ := has_split h'
      exact ⟨x :: A, e, C, rfl, he, by simpa [hasF, hx] using hA⟩
theorem has_not {a : Rf} {F : List En} (h : hasF F a = false) : ∀ e ∈ F, e.a ≠ a := by
  intro e he hh
  simp only [hasF, List.any_eq_false, decide_eq_true_eq] at h
  exact h e he hh
theorem has_iff {a : Rf} {F : List En} : hasF F a = true ↔ ∃ e ∈ F, e.a = a := by simp [hasF]

section
variable {a : Rf} {A C : List En} {e : En}
theorem kid_at (h : hasF A e.a = false) (b : Rf) : kidF e.a b (A ++ e :: C) = A ++ e :: ⟨b, e.d + 1⟩ :: C := by
  induction A with
  | nil => simp [kidF]
  | cons x A ih =>
    have hx := has_not h x (by simp)
    have : hasF A e.a = false := by simp [hasF] at h ⊢; exact h.2
    simp [kidF, hx, ih this]
theorem rem_at (h : hasF A e.a = false) : remF e.a (A ++ e :: C) = A ++ ((runF e.d C).map up1 ++ restF e.d C) := by
  induction A with
  | nil => simp [remF]
  | cons x A ih =>
    have hx := has_not h x (by simp)
    have : hasF A e.a = false := by simp [hasF] at h ⊢; exact h.2
    simp [remF, hx, ih this]
theorem dep_at (h : hasF A e.a = false) : depF e.a (A ++ e :: C) = e.d := by
  induction A with
  | nil => simp [depF]
  | cons x A ih =>
    have hx := has_not h x (by simp)
    have : hasF A e.a = false := by simp [hasF] at h ⊢; exact h.2
    simp [depF, hx, ih this]
theorem des_at (h : hasF A e.a = false) : desF e.a (A ++ e :: C) = (runF e.d C).map (·.a) := by
  induction A with
  | nil => simp [desF]
  | cons x A ih =>
    have hx := has_not h x (by simp)
    have : hasF A e.a = false := by simp [hasF] at h ⊢; exact h.2
    simp [desF, hx, ih this]
theorem par_at (h : hasF A e.a = false) (B : List En) : parF e.a B (A ++ e :: C) = ((nearF e.d (A.reverse ++ B)).a, decide (0 ≤ (nearF e.d (A.reverse ++ B)).d)) := by
  induction A generalizing B with
  | nil => rw [List.nil_append, parF, if_pos rfl]; rfl
  | cons x A ih =>
    have hx := has_not h x (by simp)
    have : hasF A e.a = false := by simp [hasF] at h ⊢; exact h.2
    simp [parF, hx, ih this]
end
theorem kid_none {p a : Rf} : ∀ {F : List En}, hasF F p = false → kidF p a F = F
  | [], _ => rfl
  | x :: F, h => by
    have hx := has_not h x (by simp)
    have : hasF F p = false := by simp [hasF] at h ⊢; exact h.2
    simp [kidF, hx, kid_none this]
theorem rem_none {a : Rf} : ∀ {F : List En}, hasF F a = false → remF a F = F
  | [], _ => rfl
  | x :: F, h => by
    have hx := has_not h x (by simp)
    have : hasF F a = false := by simp [hasF] at h ⊢; exact h.2
    simp [remF, hx, rem_none this]
theorem dep_none {a : Rf} : ∀ {F : List En}, hasF F a = false → depF a F = -1
  | [], _ => rfl
  | x :: F, h => by
    have hx := has_not h x (by simp)
    have : hasF F a = false := by simp [hasF] at h ⊢; exact h.2
    simp [depF, hx, dep_none this]
theorem des_none {a : Rf} : ∀ {F : List En}, hasF F a = false → desF a F = []
  | [], _ => rfl
  | x :: F, h => by
    have hx := has_not h x (by simp)
    have : hasF F a = false := by simp [hasF] at h ⊢; exact h.2
    simp [desF, hx, des_none this]
theorem par_none {a : Rf} : ∀ {F : List En} (B : List En), hasF F a = false → parF a B F = (rf0, false)
  | [], _, _ => rfl
  | x :: F, B, h => by
    have hx := has_not h x (by simp)
    have : hasF F a = false := by simp [hasF] at h ⊢; exact h.2
    simp [parF, hx, par_none _ this]

end Go.Proofs.Ytjopmhidldemmaa
