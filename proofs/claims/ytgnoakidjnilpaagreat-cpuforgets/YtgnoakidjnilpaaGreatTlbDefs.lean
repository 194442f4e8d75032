/-
  Lines as five numbers, the buffer as what each entry holds: what is right, empty, found, wiped, counted. No statement is proved here.
-/
import Derived.Test.YtgnoakidjnilpaaGreatBase
namespace Go.Proofs.YtgnoakidjnilpaaGreat
open Go.RowKit

/-- A line: its five numbers. -/
structure Ln where (v a p f r : Int)

def zl : Ln := ⟨0, 0, 0, 0, 0⟩

/-- A line's cells. -/
def Ln.box (l : Ln) : Array Value := #[.int .i64 l.v, .int .i64 l.a, .int .i64 l.p, .int .i64 l.f, .int .i64 l.r]

def leq (x y : Ln) : Bool := x.v == y.v && (x.a == y.a && (x.p == y.p && (x.f == y.f && x.r == y.r)))

def emp (l : Ln) : Bool := leq l zl

/-- Do two lines speak of one page? -/
def key (x y : Ln) : Bool := x.v == y.v && (x.a == y.a && x.p == y.p)

def inB (n a b : Int) : Bool := decide (a ≤ n) && decide (n ≤ b)

def rightL (l : Ln) : Bool := inB l.v 1 15 && (inB l.a 0 15 && (inB l.p 0 1023 && (inB l.f 0 1023 && inB l.r 0 7)))

theorem leq_iff {x y : Ln} : leq x y = true ↔ x = y := by
  cases x; cases y; simp [leq]

theorem emp_iff {x : Ln} : emp x = true ↔ x = zl := leq_iff

theorem emp_zl : emp zl = true := rfl

theorem key_iff {x y : Ln} : key x y = true ↔ x.v = y.v ∧ x.a = y.a ∧ x.p = y.p := by simp [key]

theorem inB_iff {n a b : Int} : inB n a b = true ↔ a ≤ n ∧ n ≤ b := by simp [inB]

theorem rightL_iff {l : Ln} : rightL l = true ↔ (1 ≤ l.v ∧ l.v ≤ 15) ∧ (0 ≤ l.a ∧ l.a ≤ 15) ∧ (0 ≤ l.p ∧ l.p ≤ 1023) ∧ (0 ≤ l.f ∧ l.f ≤ 1023) ∧ (0 ≤ l.r ∧ l.r ≤ 7) := by
  simp [rightL, inB_iff]

theorem right_emp {l : Ln} (h : rightL l = true) : emp l = false := by
  cases he : emp l with
  | false => rfl
  | true =>
    rw [emp_iff.mp he] at h
    exact absurd h (by decide)

/-- Is a line there, and does the test want it? -/
def goes (g : Ln → Bool) (l : Ln) : Bool := !emp l && g l

/-- The entries without those that the test wants. -/
def wipe (g : Ln → Bool) (T : Nat → Ln) : Nat → Ln := fun j => bif goes g (T j) then zl else T j

/-- How many of the first n entries the test wants. -/
def cnt (g : Ln → Bool) (T : Nat → Ln) : Nat → Int
  | 0 => 0
  | n + 1 => cnt g T n + (bif goes g (T n) then 1 else 0)

def upd (T : Nat → Ln) (k : Nat) (l : Ln) : Nat → Ln := fun j => bif j == k then l else T j

/-- Wiped as far as k, and as it was from there on. -/
def part' (g : Ln → Bool) (T : Nat → Ln) (k : Nat) : Nat → Ln := fun j => bif decide (j < k) then wipe g T j else T j

theorem upd_same (T : Nat → Ln) (k : Nat) (l : Ln) : upd T k l k = l := by simp [upd]

theorem upd_other (T : Nat → Ln) {k j : Nat} (l : Ln) (h : j ≠ k) : upd T k l j = T j := by
  have : (j == k) = false := by simpa using h
  simp [upd, this]

theorem cnt_bounds (g : Ln → Bool) (T : Nat → Ln) (n : Nat) : 0 ≤ cnt g T n ∧ cnt g T n ≤ n := by
  induction n with
  | zero => exact ⟨Int.le_refl _, Int.le_refl _⟩
  | succ n ih =>
    unfold cnt
    cases goes g (T n) <;> simp <;> omega

theorem part_zero (g : Ln → Bool) (T : Nat → Ln) : part' g T 0 = T := by
  funext j; simp [part']

theorem part_all (g : Ln → Bool) (T : Nat → Ln) (j : Nat) (h : j < 8) : part' g T 8 j = wipe g T j := by
  simp [part', h]

theorem part_at (g : Ln → Bool) (T : Nat → Ln) (k : Nat) : part' g T k k = T k := by simp [part']

theorem part_goes {g : Ln → Bool} {T : Nat → Ln} {k : Nat} (h : goes g (T k) = true) : part' g T (k + 1) = upd (part' g T k) k zl := by
  funext j
  by_cases hj : j = k
  · subst hj
    simp [part', upd, wipe, h]
  · rw [upd_other _ _ hj]
    have : decide (j < k + 1) = decide (j < k) := by simp; omega
    simp only [part', this]

theorem part_stays {g : Ln → Bool} {T : Nat → Ln} {k : Nat} (h : goes g (T k) = false) : part' g T (k + 1) = part' g T k := by
  funext j
  by_cases hj : j = k
  · subst hj
    simp [part', wipe, h]
  · have : decide (j < k + 1) = decide (j < k) := by simp; omega
    simp only [part', this]

/-- Is a line the one of these three numbers? -/
def hit (v a p : Int) (l : Ln) : Bool := !emp l && key l ⟨v, a, p, 0, 0⟩

/-- The first of the first n entries that has these three numbers; below 0: none. -/
def idx (T : Nat → Ln) (v a p : Int) : Nat → Int
  | 0 => -1
  | n + 1 => bif decide (0 ≤ idx T v a p n) then idx T v a p n else bif hit v a p (T n) then (n : Int) else -1

theorem idx_none {T : Nat → Ln} {v a p : Int} {n : Nat} (h : ∀ j, j < n → hit v a p (T j) = false) : idx T v a p n = -1 := by
  induction n with
  | zero => rfl
  | succ n ih =>
    have e := ih (fun j hj => h j (by omega))
    simp [idx, e, h n (by omega)]

theorem idx_at {T : Nat → Ln} {v a p : Int} {k : Nat} (h : ∀ j, j < k → hit v a p (T j) = false) (hk : hit v a p (T k) = true) : ∀ n, k < n → idx T v a p n = k := by
  intro n hn
  induction n with
  | zero => omega
  | succ n ih =>
    by_cases hkn : k = n
    · subst hkn
      simp [idx, idx_none h, hk]
    · have e := ih (by omega)
      simp [idx, e]

theorem idx_cases (T : Nat → Ln) (v a p : Int) (n : Nat) : (idx T v a p n = -1 ∧ ∀ j, j < n → hit v a p (T j) = false) ∨ ∃ k, k < n ∧ idx T v a p n = k ∧ hit v a p (T k) = true ∧ ∀ j, j < k → hit v a p (T j) = false := by
  induction n with
  | zero => exact Or.inl ⟨rfl, fun j hj => by omega⟩
  | succ n ih =>
    rcases ih with ⟨e, h⟩ | ⟨k, hk, e, h1, h2⟩
    · cases hn : hit v a p (T n) with
      | false =>
        refine Or.inl ⟨by simp [idx, e, hn], fun j hj => ?_⟩
        rcases Nat.lt_or_ge j n with h' | h'
        · exact h j h'
        · obtain rfl : j = n := by omega
          exact hn
      | true => exact Or.inr ⟨n, by omega, by simp [idx, e, hn], hn, h⟩
    · exact Or.inr ⟨k, by omega, by simp [idx, e], h1, h2⟩

/-- What is told of the place that was found: frame, rights, whether. -/
def ansF (T : Nat → Ln) (i : Int) : Int := bif decide (i < 0) then 0 else (T i.toNat).f
def ansR (T : Nat → Ln) (i : Int) : Int := bif decide (i < 0) then 0 else (T i.toNat).r
def ansB (i : Int) : Bool := !decide (i < 0)

/-- How the two counts go on. -/
def moreF (i : Int) : Int := bif decide (i < 0) then 0 else 1
def moreM (i : Int) : Int := bif decide (i < 0) then 1 else 0

/-- Each of the eight entries is empty, or has a right line. -/
def GoodT (T : Nat → Ln) : Prop := ∀ j, j < 8 → T j = zl ∨ rightL (T j) = true

/-- No two entries have one page. -/
def Uniq (T : Nat → Ln) : Prop := ∀ i j, i < 8 → j < 8 → emp (T i) = false → emp (T j) = false → key (T i) (T j) = true → i = j

theorem good_emp {T : Nat → Ln} (h : GoodT T) {j : Nat} (hj : j < 8) : emp (T j) = ((T j).v == 0) := by
  rcases h j hj with e | e
  · rw [e]; rfl
  · rw [right_emp e]
    have := rightL_iff.mp e
    symm
    simp
    omega

theorem good_zero : GoodT (fun _ => zl) := fun _ _ => Or.inl rfl
theorem uniq_zero : Uniq (fun _ => zl) := fun _ _ _ _ h _ _ => absurd (show emp zl = false from h) (by decide)

theorem goes_false {g : Ln → Bool} {l : Ln} (h : goes g l = false) : emp l = true ∨ g l = false := by
  unfold goes at h
  cases he : emp l with
  | true => exact Or.inl rfl
  | false => rw [he] at h; exact Or.inr (by simpa using h)

theorem wipe_cases (g : Ln → Bool) (T : Nat → Ln) (j : Nat) : (wipe g T j = zl ∧ goes g (T j) = true) ∨ (wipe g T j = T j ∧ goes g (T j) = false) := by
  cases h : goes g (T j) with
  | true => left; simp [wipe, h]
  | false => right; simp [wipe, h]

theorem good_wipe {T : Nat → Ln} (h : GoodT T) (g : Ln → Bool) : GoodT (wipe g T) := by
  intro j hj
  rcases wipe_cases g T j with ⟨e, _⟩ | ⟨e, _⟩
  · exact Or.inl e
  · rw [e]; exact h j hj

theorem uniq_wipe {T : Nat → Ln} (h : Uniq T) (g : Ln → Bool) : Uniq (wipe g T) := by
  intro i j hi hj he he' hk
  rcases wipe_cases g T i with ⟨e, _⟩ | ⟨e, _⟩
  · rw [e] at he; exact absurd he (by decide)
  rcases wipe_cases g T j with ⟨e', hg⟩ | ⟨e', _⟩
  · rw [e'] at he'; exact absurd he' (by decide)
  · rw [e] at he hk
    rw [e'] at hk he'
    exact h i j hi hj he he' hk

theorem good_upd {T : Nat → Ln} (h : GoodT T) {l : Ln} (hl : l = zl ∨ rightL l = true) (k : Nat) : GoodT (upd T k l) := by
  intro j hj
  by_cases hjk : j = k
  · subst hjk; rw [upd_same]; exact hl
  · rw [upd_other _ _ hjk]; exact h j hj

theorem uniq_zl {T : Nat → Ln} (h : Uniq T) (k : Nat) : Uniq (upd T k zl) := by
  intro i j hi hj he he' hk
  by_cases hik : i = k
  · subst hik; rw [upd_same] at he; exact absurd he (by decide)
  by_cases hjk : j = k
  · subst hjk; rw [upd_same] at he'; exact absurd he' (by decide)
  rw [upd_other _ _ hik] at he hk
  rw [upd_other _ _ hjk] at he' hk
  exact h i j hi hj he he' hk

theorem key_comm (x y : Ln) : key x y = key y x := by
  have e : ∀ a b : Int, (a == b) = (b == a) := fun a b => by
    by_cases h : a = b
    · subst h; rfl
    · rw [beq_eq_false_iff_ne.mpr h, beq_eq_false_iff_ne.mpr (fun e => h e.symm)]
  unfold key
  rw [e x.v, e x.a, e x.p]

/-- Filled: wiped of the line's page, and the line put. -/
def filled (T : Nat → Ln) (k : Nat) (l : Ln) : Nat → Ln := upd (wipe (fun x => key x l) T) k l

theorem wiped_key {T : Nat → Ln} {l : Ln} {j : Nat} (he : emp (wipe (fun x => key x l) T j) = false) : key (wipe (fun x => key x l) T j) l = false ∧ wipe (fun x => key x l) T j = T j := by
  rcases wipe_cases (fun x => key x l) T j with ⟨e, _⟩ | ⟨e, hg⟩
  · rw [e] at he; exact absurd he (by decide)
  · rw [e] at he ⊢
    rcases goes_false hg with h | h
    · rw [he] at h; exact absurd h (by decide)
    · exact ⟨h, rfl⟩

theorem uniq_filled {T : Nat → Ln} (h : Uniq T) (k : Nat) (l : Ln) : Uniq (filled T k l) := by
  intro i j hi hj he he' hk
  unfold filled at he he' hk
  by_cases hik : i = k
  · by_cases hjk : j = k
    · omega
    · subst hik
      rw [upd_other _ _ hjk] at he' hk
      rw [upd_same, key_comm, (wiped_key he').1] at hk
      exact absurd hk (by decide)
  · by_cases hjk : j = k
    · subst hjk
      rw [upd_other _ _ hik] at he hk
      rw [upd_same, (wiped_key he).1] at hk
      exact absurd hk (by decide)
    · rw [upd_other _ _ hik] at he hk
      rw [upd_other _ _ hjk] at he' hk
      exact uniq_wipe h _ i j hi hj he he' hk

theorem good_filled {T : Nat → Ln} (h : GoodT T) (k : Nat) {l : Ln} (hl : rightL l = true) : GoodT (filled T k l) :=
  good_upd (good_wipe h _) (Or.inr hl) k

end Go.Proofs.YtgnoakidjnilpaaGreat
