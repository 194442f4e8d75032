/-
  The lines of the interrupt controller as plain numbers: which may be heard, which is next, the running priority. No statement is proved here.
-/
import Derived.Test.YtcenojdcmmflaaaBase
namespace Go.Proofs.Ytcenojdcmmflaaa

/-- A line: its priority, the one that it was acknowledged with (256: it is not active), enabled, pending. -/
structure Li where
  p : Int
  s : Int
  en : Bool
  pe : Bool

def zi : Li := ⟨255, 256, false, false⟩
def act (l : Li) : Bool := l.s != 256

def upd (T : Nat → Li) (k : Nat) (l : Li) : Nat → Li := fun j => if j = k then l else T j

theorem upd_same (T : Nat → Li) (k : Nat) (l : Li) : upd T k l k = l := by simp [upd]
theorem upd_other (T : Nat → Li) {k j : Nat} (l : Li) (h : j ≠ k) : upd T k l j = T j := by simp [upd, h]

/-- The least of the first k. -/
def runN (T : Nat → Li) : Nat → Int
  | 0 => 256
  | k + 1 => min (runN T k) (T k).s

def run (T : Nat → Li) : Int := runN T 32

/-- May a line be heard below that bound? -/
def may (bd : Int) (l : Li) : Bool := l.en && (l.pe && (!act l && decide (l.p < bd)))

/-- The next of the first k, and whether there is one. -/
def best (bd : Int) (T : Nat → Li) : Nat → Nat × Bool
  | 0 => (0, false)
  | k + 1 => if may bd (T k) && (!(best bd T k).2 || decide ((T k).p < (T (best bd T k).1).p)) then (k, true) else best bd T k

def bound (T : Nat → Li) (m : Int) : Int := min m (run T)
def nextL (T : Nat → Li) (m : Int) : Nat := (best (bound T m) T 32).1
def nextO (T : Nat → Li) (m : Int) : Bool := (best (bound T m) T 32).2

def isL (n : Int) : Bool := decide (0 ≤ n) && decide (n < 32)
def isP (n : Int) : Bool := decide (0 ≤ n) && decide (n ≤ 255)
def isM (n : Int) : Bool := decide (0 ≤ n) && decide (n ≤ 256)

theorem isL_iff {n : Int} : isL n = true ↔ 0 ≤ n ∧ n < 32 := by simp [isL]
theorem isP_iff {n : Int} : isP n = true ↔ 0 ≤ n ∧ n ≤ 255 := by simp [isP]
theorem isM_iff {n : Int} : isM n = true ↔ 0 ≤ n ∧ n ≤ 256 := by simp [isM]

def errL (n : Int) : Int := bif isL n then 0 else 1
def chT (T : Nat → Li) (n : Int) (f : Li → Li) : Nat → Li := bif isL n then upd T n.toNat (f (T n.toNat)) else T
def fPe (v : Bool) (l : Li) : Li := ⟨l.p, l.s, l.en, v⟩
def fEn (v : Bool) (l : Li) : Li := ⟨l.p, l.s, v, l.pe⟩
def fP (x : Int) (l : Li) : Li := ⟨x, l.s, l.en, l.pe⟩
def fAck (l : Li) : Li := ⟨l.p, l.p, l.en, false⟩
def fEnd (l : Li) : Li := ⟨l.p, 256, l.en, l.pe⟩
def prE (n x : Int) : Int := bif isP x then errL n else 1
def prT (T : Nat → Li) (n x : Int) : Nat → Li := bif isP x then chT T n (fP x) else T
def maE (x : Int) : Int := bif isM x then 0 else 1
def maM (m x : Int) : Int := bif isM x then x else m
def ackA (T : Nat → Li) (m : Int) : Int := bif nextO T m then (nextL T m : Int) else 1023
def ackT (T : Nat → Li) (m : Int) : Nat → Li := bif nextO T m then upd T (nextL T m) (fAck (T (nextL T m))) else T
def enE (T : Nat → Li) (n : Int) : Int := bif isL n then (bif act (T n.toNat) then 0 else 70) else 1
def enT (T : Nat → Li) (n : Int) : Nat → Li := chT T n fEnd

/-- An act as a pure function. -/
def stepT (d n x : Int) (on : Bool) (T : Nat → Li) (m : Int) : Nat → Li :=
  if d = 1 then chT T n (fPe true) else if d = 2 then chT T n (fPe false) else if d = 3 then chT T n (fEn on) else if d = 4 then prT T n x
  else if d = 6 then ackT T m else if d = 7 then enT T n else T
def stepM (d x m : Int) : Int := if d = 5 then maM m x else m

structure Good (T : Nat → Li) (m : Int) : Prop where
  line : ∀ j, j < 32 → 0 ≤ (T j).p ∧ (T j).p ≤ 255 ∧ 0 ≤ (T j).s ∧ (T j).s ≤ 256
  mask : 0 ≤ m ∧ m ≤ 256

theorem good_zero : Good (fun _ => zi) 256 := ⟨fun _ _ => by simp [zi], by omega⟩

theorem good_upd {T : Nat → Li} {m : Int} (h : Good T m) (k : Nat) (l : Li) (hl : k < 32 → 0 ≤ l.p ∧ l.p ≤ 255 ∧ 0 ≤ l.s ∧ l.s ≤ 256) : Good (upd T k l) m :=
  ⟨fun j hj => by
    by_cases e : j = k
    · subst e; rw [upd_same]; exact hl hj
    · rw [upd_other _ _ e]; exact h.line j hj, h.mask⟩

theorem good_ch {T : Nat → Li} {m : Int} (h : Good T m) (n : Int) (f : Li → Li) (hf : ∀ l : Li, (0 ≤ l.p ∧ l.p ≤ 255 ∧ 0 ≤ l.s ∧ l.s ≤ 256) → 0 ≤ (f l).p ∧ (f l).p ≤ 255 ∧ 0 ≤ (f l).s ∧ (f l).s ≤ 256) : Good (chT T n f) m := by
  unfold chT
  cases isL n with
  | true => exact good_upd h _ _ (fun hk => hf _ (h.line _ hk))
  | false => exact h

theorem good_pr {T : Nat → Li} {m : Int} (h : Good T m) (n x : Int) : Good (prT T n x) m := by
  unfold prT
  cases e : isP x with
  | true => have := isP_iff.mp e; exact good_ch h _ _ (fun l hl => by simp only [fP]; omega)
  | false => exact h

theorem good_ma {T : Nat → Li} {m : Int} (h : Good T m) (x : Int) : Good T (maM m x) := by
  unfold maM
  cases e : isM x with
  | true => have := isM_iff.mp e; exact ⟨h.line, by simpa using this⟩
  | false => exact h

theorem good_ack {T : Nat → Li} {m : Int} (h : Good T m) : Good (ackT T m) m := by
  unfold ackT
  cases nextO T m with
  | true => exact good_upd h _ _ (fun hk => by have := h.line _ hk; simp only [fAck]; omega)
  | false => exact h

theorem good_en {T : Nat → Li} {m : Int} (h : Good T m) (n : Int) : Good (enT T n) m :=
  good_ch h _ _ (fun l hl => by simp only [fEnd]; omega)

theorem good_step {T : Nat → Li} {m : Int} (h : Good T m) (d n x : Int) (on : Bool) : Good (stepT d n x on T m) (stepM d x m) := by
  by_cases h5 : d = 5
  · subst h5; simp only [stepT, stepM]; simp; exact good_ma h x
  · have e5 : stepM d x m = m := by simp [stepM, h5]
    rw [e5]
    unfold stepT
    repeat' split
    · exact good_ch h _ _ (fun l hl => by simpa only [fPe] using hl)
    · exact good_ch h _ _ (fun l hl => by simpa only [fPe] using hl)
    · exact good_ch h _ _ (fun l hl => by simpa only [fEn] using hl)
    · exact good_pr h n x
    · exact good_ack h
    · exact good_en h n
    · exact h

/-- What the running priority is. -/
theorem runN_le (T : Nat → Li) (n : Nat) : runN T n ≤ 256 ∧ ∀ j, j < n → runN T n ≤ (T j).s := by
  induction n with
  | zero => exact ⟨by simp [runN], fun j hj => by omega⟩
  | succ k ih =>
    refine ⟨by simp only [runN]; omega, fun j hj => ?_⟩
    by_cases e : j = k
    · subst e; simp only [runN]; omega
    · have := ih.2 j (by omega); simp only [runN]; omega

theorem runN_is (T : Nat → Li) (n : Nat) : runN T n = 256 ∨ ∃ j, j < n ∧ runN T n = (T j).s := by
  induction n with
  | zero => exact Or.inl rfl
  | succ k ih =>
    by_cases h : runN T k ≤ (T k).s
    · have e : runN T (k + 1) = runN T k := by simp only [runN]; omega
      rw [e]
      rcases ih with ih | ⟨j, hj, ih⟩
      · exact Or.inl ih
      · exact Or.inr ⟨j, by omega, ih⟩
    · exact Or.inr ⟨k, by omega, by simp only [runN]; omega⟩

theorem run_bounds {T : Nat → Li} {m : Int} (h : Good T m) (n : Nat) (hn : n ≤ 32) : 0 ≤ runN T n ∧ runN T n ≤ 256 := by
  refine ⟨?_, (runN_le T n).1⟩
  rcases runN_is T n with e | ⟨j, hj, e⟩
  · omega
  · have := h.line j (by omega); omega

/-- What the next one is. -/
def IsNext (bd : Int) (T : Nat → Li) (n : Nat) (r : Nat × Bool) : Prop :=
  (r.2 = true → r.1 < n ∧ may bd (T r.1) = true ∧ ∀ j, j < n → may bd (T j) = true → (T r.1).p < (T j).p ∨ ((T r.1).p = (T j).p ∧ r.1 ≤ j)) ∧
  (r.2 = false → r.1 = 0 ∧ ∀ j, j < n → may bd (T j) = false)

theorem best_next (bd : Int) (T : Nat → Li) (n : Nat) : IsNext bd T n (best bd T n) := by
  induction n with
  | zero => exact ⟨fun h => by simp [best] at h, fun _ => ⟨rfl, fun j hj => by omega⟩⟩
  | succ k ih =>
    obtain ⟨h1, h2⟩ := ih
    unfold best
    cases hm : may bd (T k) with
    | false =>
      simp only [Bool.false_and, Bool.false_eq_true, if_false]
      refine ⟨fun h => ?_, fun h => ?_⟩
      · obtain ⟨a, b, c⟩ := h1 h
        refine ⟨by omega, b, fun j hj hmj => ?_⟩
        by_cases e : j = k
        · subst e; rw [hm] at hmj; exact absurd hmj (by simp)
        · exact c j (by omega) hmj
      · obtain ⟨a, b⟩ := h2 h
        refine ⟨a, fun j hj => ?_⟩
        by_cases e : j = k
        · subst e; exact hm
        · exact b j (by omega)
    | true =>
      cases ho : (best bd T k).2 with
      | false =>
        simp only [Bool.not_false, Bool.true_or, Bool.and_self, if_true]
        obtain ⟨a, b⟩ := h2 ho
        refine ⟨fun _ => ⟨by show k < k + 1; omega, hm, fun j hj hmj => ?_⟩, fun h => by simp at h⟩
        by_cases e : j = k
        · subst e; exact Or.inr ⟨rfl, Nat.le_refl _⟩
        · rw [b j (by omega)] at hmj; exact absurd hmj (by simp)
      | true =>
        obtain ⟨a, b, c⟩ := h1 ho
        by_cases hlt : (T k).p < (T (best bd T k).1).p
        · simp only [Bool.not_true, Bool.false_or, decide_eq_true hlt, Bool.and_self, if_true]
          refine ⟨fun _ => ⟨by show k < k + 1; omega, hm, fun j hj hmj => ?_⟩, fun h => by simp at h⟩
          by_cases e : j = k
          · subst e; exact Or.inr ⟨rfl, Nat.le_refl _⟩
          · have := c j (by omega) hmj
            left
            show (T k).p < (T j).p
            omega
        · simp only [Bool.not_true, Bool.false_or, decide_eq_false hlt, Bool.and_false, Bool.false_eq_true, if_false]
          refine ⟨fun _ => ⟨by omega, b, fun j hj hmj => ?_⟩, fun h => by rw [ho] at h; simp at h⟩
          by_cases e : j = k
          · subst e
            rcases Int.lt_or_eq_of_le (Int.not_lt.mp hlt) with h' | h'
            · exact Or.inl h'
            · exact Or.inr ⟨h', by omega⟩
          · exact c j (by omega) hmj

theorem next_unique {bd : Int} {T : Nat → Li} {n : Nat} {r q : Nat × Bool} (h : IsNext bd T n r) (g : IsNext bd T n q) : r = q := by
  obtain ⟨a, x⟩ := r
  obtain ⟨b, y⟩ := q
  cases x with
  | false =>
    obtain ⟨e, hn⟩ := h.2 rfl
    cases y with
    | false => obtain ⟨e', _⟩ := g.2 rfl; simp only at e e'; subst e; subst e'; rfl
    | true => obtain ⟨hb, hm, _⟩ := g.1 rfl; have := hn b hb; simp only at hm; rw [this] at hm; exact absurd hm (by simp)
  | true =>
    obtain ⟨ha, hm, hl⟩ := h.1 rfl
    cases y with
    | false => obtain ⟨_, hn⟩ := g.2 rfl; have := hn a ha; simp only at hm; rw [this] at hm; exact absurd hm (by simp)
    | true =>
      obtain ⟨hb, hm', hl'⟩ := g.1 rfl
      have h1 := hl b hb hm'
      have h2 := hl' a ha hm
      simp only at h1 h2
      have : a = b := by omega
      subst this; rfl

theorem next_lt {T : Nat → Li} {m : Int} (h : nextO T m = true) : nextL T m < 32 := ((best_next (bound T m) T 32).1 h).1
theorem next_may {T : Nat → Li} {m : Int} (h : nextO T m = true) : may (bound T m) (T (nextL T m)) = true := ((best_next (bound T m) T 32).1 h).2.1
theorem next_least {T : Nat → Li} {m : Int} (h : nextO T m = true) {j : Nat} (hj : j < 32) (hm : may (bound T m) (T j) = true) : (T (nextL T m)).p < (T j).p ∨ ((T (nextL T m)).p = (T j).p ∧ nextL T m ≤ j) :=
  ((best_next (bound T m) T 32).1 h).2.2 j hj hm
theorem next_none {T : Nat → Li} {m : Int} (h : nextO T m = false) {j : Nat} (hj : j < 32) : may (bound T m) (T j) = false := ((best_next (bound T m) T 32).2 h).2 j hj
theorem next_zero {T : Nat → Li} {m : Int} (h : nextO T m = false) : nextL T m = 0 := ((best_next (bound T m) T 32).2 h).1
theorem best_lt (bd : Int) (T : Nat → Li) (n : Nat) (h : (best bd T n).2 = true) : (best bd T n).1 < n := ((best_next bd T n).1 h).1
theorem best_lt' (bd : Int) (T : Nat → Li) (n : Nat) : (best bd T n).1 ≤ n := by
  cases h : (best bd T n).2 with
  | true => exact Nat.le_of_lt (best_lt bd T n h)
  | false => rw [((best_next bd T n).2 h).1]; omega

theorem may_iff {bd : Int} {l : Li} : may bd l = true ↔ l.en = true ∧ l.pe = true ∧ l.s = 256 ∧ l.p < bd := by
  simp [may, act]

/-- The running priority behind an acknowledgement. -/
theorem run_ack {T : Nat → Li} {m : Int} (h : nextO T m = true) : run (ackT T m) = (T (nextL T m)).p := by
  have hk := next_lt h
  have hm := may_iff.mp (next_may h)
  have hb : bound T m ≤ run T := by unfold bound; omega
  have e : ackT T m = upd T (nextL T m) (fAck (T (nextL T m))) := by simp [ackT, h]
  rw [e]
  have h1 := (runN_le (upd T (nextL T m) (fAck (T (nextL T m)))) 32).2 _ hk
  rw [upd_same] at h1
  simp only [fAck] at h1
  have hr := (runN_le T 32).2
  have hr0 := (runN_le T 32).1
  unfold run at hb ⊢
  rcases runN_is (upd T (nextL T m) (fAck (T (nextL T m)))) 32 with e' | ⟨j, hj, e'⟩
  · simp only [fAck] at e'; omega
  · by_cases ej : j = nextL T m
    · rw [ej, upd_same] at e'; exact e'
    · rw [upd_other _ _ ej] at e'
      have := hr j hj
      simp only [fAck] at e'
      omega

theorem run_none {T : Nat → Li} (h : ∀ j, j < 32 → act (T j) = false) : run T = 256 := by
  rcases runN_is T 32 with e | ⟨j, hj, e⟩
  · exact e
  · have := h j hj
    simp [act] at this
    unfold run
    omega

end Go.Proofs.Ytcenojdcmmflaaa
