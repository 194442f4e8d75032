/-
  The virtual interrupts as plain data: which are pending, which are active, which is next, all of them in their order. No statement is proved here.
-/
import Derived.Test.YthkieoedidpkaaaBase
namespace Go.Proofs.Ythkieoedidpkaaa

/-- All that a controller holds. -/
structure Vg where
  pe : Nat → Option (Int × Bool)
  ac : Nat → Option (Int × Bool)
  off : Nat → Bool
  mask : Int
  lrs : Int
  inj : Int
  ack : Int
  en : Int

def set1 (f : Nat → Option (Int × Bool)) (k : Nat) (o : Option (Int × Bool)) : Nat → Option (Int × Bool) := fun j => if j = k then o else f j
def setB (f : Nat → Bool) (k : Nat) (o : Bool) : Nat → Bool := fun j => if j = k then o else f j
theorem set1_same (f : Nat → Option (Int × Bool)) (k : Nat) (o : Option (Int × Bool)) : set1 f k o k = o := by simp [set1]
theorem set1_other (f : Nat → Option (Int × Bool)) {k j : Nat} (o : Option (Int × Bool)) (h : j ≠ k) : set1 f k o j = f j := by simp [set1, h]
theorem setB_same (f : Nat → Bool) (k : Nat) (o : Bool) : setB f k o k = o := by simp [setB]
theorem setB_other (f : Nat → Bool) {k j : Nat} (o : Bool) (h : j ≠ k) : setB f k o j = f j := by simp [setB, h]

def zeroV (lrs : Int) : Vg := ⟨fun _ => none, fun _ => none, fun _ => false, 256, lrs, 0, 0, 0⟩

def GoodF (f : Nat → Option (Int × Bool)) : Prop := ∀ j p l, f j = some (p, l) → j < 64 ∧ 0 ≤ p ∧ p ≤ 255

structure Good (S : Vg) : Prop where
  pe : GoodF S.pe
  ac : GoodF S.ac
  mask : 0 ≤ S.mask ∧ S.mask ≤ 256
  lrs : 1 ≤ S.lrs ∧ S.lrs ≤ 16

theorem good_zero {lrs : Int} (h : 1 ≤ lrs ∧ lrs ≤ 16) : Good (zeroV lrs) := ⟨fun _ _ _ h => by simp [zeroV] at h, fun _ _ _ h => by simp [zeroV] at h, by simp [zeroV], h⟩

theorem goodF_set {f : Nat → Option (Int × Bool)} (h : GoodF f) (k : Nat) (o : Option (Int × Bool)) (ho : ∀ p l, o = some (p, l) → k < 64 ∧ 0 ≤ p ∧ p ≤ 255) : GoodF (set1 f k o) := by
  intro j p l hj
  by_cases e : j = k
  · subst e; rw [set1_same] at hj; exact ho p l hj
  · rw [set1_other _ _ e] at hj; exact h j p l hj

def isI (n : Int) : Bool := decide (0 ≤ n) && decide (n ≤ 63)
def isP (n : Int) : Bool := decide (0 ≤ n) && decide (n ≤ 255)
def isM (n : Int) : Bool := decide (0 ≤ n) && decide (n ≤ 256)
theorem isI_iff {n : Int} : isI n = true ↔ 0 ≤ n ∧ n ≤ 63 := by simp [isI]
theorem isP_iff {n : Int} : isP n = true ↔ 0 ≤ n ∧ n ≤ 255 := by simp [isP]
theorem isM_iff {n : Int} : isM n = true ↔ 0 ≤ n ∧ n ≤ 256 := by simp [isM]
theorem isI_nat {n : Int} (h : isI n = true) : ∃ k : Nat, n = (k : Int) ∧ k < 64 := ⟨n.toNat, by have := isI_iff.mp h; omega, by have := isI_iff.mp h; omega⟩
theorem isI_of {k : Nat} (h : k < 64) : isI (k : Int) = true := isI_iff.mpr (by omega)

def inc (x : Int) : Int := Go.RowKit.wrap64 (x + 1)
def pOf (o : Option (Int × Bool)) : Int := (o.getD (0, false)).1
def lOf (o : Option (Int × Bool)) : Bool := (o.getD (0, false)).2
theorem pOf_some (p : Int) (l : Bool) : pOf (some (p, l)) = p := rfl
theorem lOf_some (p : Int) (l : Bool) : lOf (some (p, l)) = l := rfl

def injE (S : Vg) (n p : Int) : Int := bif isI n && isP p then (bif (S.pe n.toNat).isSome then 80 else 0) else 1
def injS (S : Vg) (n p : Int) (l : Bool) : Vg :=
  bif isI n && isP p then (bif (S.pe n.toNat).isSome then S else { S with pe := set1 S.pe n.toNat (some (p, l)), inj := inc S.inj }) else S
def enaE (n : Int) : Int := bif isI n then 0 else 1
def enaS (S : Vg) (n : Int) (on : Bool) : Vg := bif isI n then { S with off := setB S.off n.toNat (!on) } else S
def masE (m : Int) : Int := bif isM m then 0 else 1
def masS (S : Vg) (m : Int) : Vg := bif isM m then { S with mask := m } else S

/-- The running priority, of the first k. -/
def runN (S : Vg) : Nat → Int
  | 0 => 256
  | k + 1 => match S.ac k with
    | some (p, _) => min (runN S k) p
    | none => runN S k
def run (S : Vg) : Int := runN S 64

/-- The priority of one that may be heard. -/
def cand (S : Vg) (k : Nat) : Option Int := match S.pe k, S.ac k, S.off k with
  | some (p, _), none, false => some p
  | _, _, _ => none

/-- The next of the first k, below a bound; and the bound for those behind. -/
def best (S : Vg) (bd : Int) : Nat → Option Nat × Int
  | 0 => (none, bd)
  | k + 1 => match cand S k with
    | some p => if p < (best S bd k).2 then (some k, p) else best S bd k
    | none => best S bd k
def nextO (S : Vg) : Option Nat := (best S (min S.mask (run S)) 64).1

def ackA (S : Vg) : Int := match nextO S with
  | some k => (k : Int)
  | none => 1023
def ackS (S : Vg) : Vg := match nextO S with
  | some k => { S with pe := set1 S.pe k none, ac := set1 S.ac k (S.pe k), ack := inc S.ack }
  | none => S
def endF (S : Vg) (n : Int) : Bool := bif isI n then lOf (S.ac n.toNat) else false
def endE (S : Vg) (n : Int) : Int := bif isI n then (bif (S.ac n.toNat).isSome then 0 else 70) else 1
def endS (S : Vg) (n : Int) : Vg := bif isI n then (bif (S.ac n.toNat).isSome then { S with ac := set1 S.ac n.toNat none, en := inc S.en } else S) else S

/-- An act as a pure function; what it tells. -/
def stepS (d n p : Int) (on : Bool) (S : Vg) : Vg :=
  if d = 1 then injS S n p on else if d = 2 then enaS S n on else if d = 3 then masS S p else if d = 4 then ackS S else if d = 5 then endS S n else S
def ansN (d : Int) (S : Vg) : Int := if d = 4 then ackA S else 0
def ansF (d n : Int) (S : Vg) : Bool := if d = 5 then endF S n else false
def ansE (d n p : Int) (S : Vg) : Int := if d = 1 then injE S n p else if d = 2 then enaE n else if d = 3 then masE p else if d = 5 then endE S n else 0

theorem good_inj {S : Vg} (h : Good S) (n p : Int) (l : Bool) : Good (injS S n p l) := by
  unfold injS
  cases hi : isI n <;> cases hp : isP p <;> cases (S.pe n.toNat).isSome <;> try exact h
  exact ⟨goodF_set h.pe _ _ (fun q l' e => by cases e; have := isI_iff.mp hi; have := isP_iff.mp hp; omega), h.ac, h.mask, h.lrs⟩
theorem good_ena {S : Vg} (h : Good S) (n : Int) (on : Bool) : Good (enaS S n on) := by
  unfold enaS
  cases isI n
  · exact h
  · exact ⟨h.pe, h.ac, h.mask, h.lrs⟩
theorem good_mas {S : Vg} (h : Good S) (m : Int) : Good (masS S m) := by
  unfold masS
  cases hm : isM m
  · exact h
  · exact ⟨h.pe, h.ac, isM_iff.mp hm, h.lrs⟩
theorem good_ack {S : Vg} (h : Good S) : Good (ackS S) := by
  unfold ackS
  cases nextO S with
  | none => exact h
  | some k => exact ⟨goodF_set h.pe _ _ (fun p l e => by cases e), goodF_set h.ac _ _ (fun p l e => h.pe k p l e), h.mask, h.lrs⟩
theorem good_end {S : Vg} (h : Good S) (n : Int) : Good (endS S n) := by
  unfold endS
  cases isI n
  · exact h
  · cases (S.ac n.toNat).isSome
    · exact h
    · exact ⟨h.pe, goodF_set h.ac _ _ (fun p l e => by cases e), h.mask, h.lrs⟩
theorem good_step {S : Vg} (h : Good S) (d n p : Int) (on : Bool) : Good (stepS d n p on S) := by
  unfold stepS
  repeat' split
  · exact good_inj h _ _ _
  · exact good_ena h _ _
  · exact good_mas h _
  · exact good_ack h
  · exact good_end h _
  · exact h

theorem lrs_step (d n p : Int) (on : Bool) (S : Vg) : (stepS d n p on S).lrs = S.lrs := by
  unfold stepS injS enaS masS ackS endS
  repeat' split
  all_goals first
    | rfl
    | (cases isI n <;> cases isP p <;> cases (S.pe n.toNat).isSome <;> rfl)
    | (cases isI n <;> cases (S.ac n.toNat).isSome <;> rfl)
    | (cases isI n <;> rfl)
    | (cases isM p <;> rfl)

/-! ### the running priority -/
theorem runN_le (S : Vg) (n : Nat) : runN S n ≤ 256 ∧ ∀ j p l, j < n → S.ac j = some (p, l) → runN S n ≤ p := by
  induction n with
  | zero => exact ⟨by simp [runN], fun j p l hj => by omega⟩
  | succ k ih =>
    cases hk : S.ac k with
    | none =>
      have e : runN S (k + 1) = runN S k := by simp only [runN, hk]
      rw [e]
      refine ⟨ih.1, fun j p l hj hp => ?_⟩
      by_cases ej : j = k
      · subst ej; rw [hk] at hp; cases hp
      · exact ih.2 j p l (by omega) hp
    | some q =>
      obtain ⟨q, lq⟩ := q
      have e : runN S (k + 1) = min (runN S k) q := by simp only [runN, hk]
      rw [e]
      refine ⟨by have := ih.1; omega, fun j p l hj hp => ?_⟩
      by_cases ej : j = k
      · subst ej; rw [hk] at hp; cases hp; omega
      · have := ih.2 j p l (by omega) hp; omega
theorem runN_is (S : Vg) (n : Nat) : runN S n = 256 ∨ ∃ j p l, j < n ∧ S.ac j = some (p, l) ∧ runN S n = p := by
  induction n with
  | zero => exact Or.inl rfl
  | succ k ih =>
    cases hk : S.ac k with
    | none =>
      have e : runN S (k + 1) = runN S k := by simp only [runN, hk]
      rw [e]
      rcases ih with ih | ⟨j, p, l, hj, hp, ih⟩
      · exact Or.inl ih
      · exact Or.inr ⟨j, p, l, by omega, hp, ih⟩
    | some q =>
      obtain ⟨q, lq⟩ := q
      have e : runN S (k + 1) = min (runN S k) q := by simp only [runN, hk]
      rw [e]
      by_cases h : runN S k ≤ q
      · rw [Int.min_eq_left h]
        rcases ih with ih | ⟨j, p, l, hj, hp, ih⟩
        · exact Or.inl ih
        · exact Or.inr ⟨j, p, l, by omega, hp, ih⟩
      · exact Or.inr ⟨k, q, lq, by omega, hk, by omega⟩
/-- What is the least is the running priority, however it was found. -/
theorem run_eq {S : Vg} (hg : GoodF S.ac) {x : Int} (h1 : x ≤ 256) (h2 : ∀ j p l, S.ac j = some (p, l) → x ≤ p) (h3 : x = 256 ∨ ∃ j p l, S.ac j = some (p, l) ∧ x = p) : x = run S := by
  have a := runN_le S 64
  rcases runN_is S 64 with e | ⟨j, p, l, hj, hp, e⟩
  · rcases h3 with h3 | ⟨j, p, l, hp, h3⟩
    · show x = runN S 64; omega
    · have := a.2 j p l (hg j p l hp).1 hp; show x = runN S 64; omega
  · have b := h2 j p l hp
    rcases h3 with h3 | ⟨j', p', l', hp', h3⟩
    · show x = runN S 64; omega
    · have := a.2 j' p' l' (hg j' p' l' hp').1 hp'; show x = runN S 64; omega

/-! ### the next one -/
theorem cand_is {S : Vg} {k : Nat} {p : Int} : cand S k = some p ↔ (∃ l, S.pe k = some (p, l)) ∧ S.ac k = none ∧ S.off k = false := by
  unfold cand
  constructor
  · intro h
    split at h
    · rename_i q l h1 h2 h3
      cases h
      exact ⟨⟨l, h1⟩, h2, h3⟩
    · cases h
  · rintro ⟨⟨l, h1⟩, h2, h3⟩
    simp [h1, h2, h3]

theorem best_spec (S : Vg) (bd : Int) (n : Nat) : (∀ j q, j < n → cand S j = some q → (best S bd n).2 ≤ q) ∧
    ((best S bd n).1 = none → (best S bd n).2 = bd) ∧
    (∀ k, (best S bd n).1 = some k → k < n ∧ cand S k = some (best S bd n).2 ∧ (best S bd n).2 < bd ∧ ∀ j q, j < k → cand S j = some q → (best S bd n).2 < q) := by
  induction n with
  | zero => exact ⟨fun j q hj => by omega, fun _ => rfl, fun k hk => by simp [best] at hk⟩
  | succ n ih =>
    obtain ⟨i1, i2, i3⟩ := ih
    cases hc : cand S n with
    | none =>
      have e : best S bd (n + 1) = best S bd n := by simp only [best, hc]
      rw [e]
      refine ⟨fun j q hj hq => ?_, i2, fun k hk => ?_⟩
      · by_cases ej : j = n
        · subst ej; rw [hc] at hq; cases hq
        · exact i1 j q (by omega) hq
      · obtain ⟨a, b⟩ := i3 k hk; exact ⟨by omega, b⟩
    | some p =>
      by_cases hp : p < (best S bd n).2
      · have e : best S bd (n + 1) = (some n, p) := by simp only [best, hc, if_pos hp]
        rw [e]
        have hb : (best S bd n).2 ≤ bd := by
          cases hn : (best S bd n).1 with
          | none => rw [i2 hn]; omega
          | some k => have := (i3 k hn).2.2.1; omega
        refine ⟨fun j q hj hq => ?_, fun h => by simp at h, fun k hk => ?_⟩
        · show p ≤ q
          by_cases ej : j = n
          · subst ej; rw [hc] at hq; cases hq; omega
          · have := i1 j q (by omega) hq; omega
        · simp only [Option.some.injEq] at hk
          subst hk
          refine ⟨by omega, hc, by show p < bd; omega, fun j q hj hq => ?_⟩
          have := i1 j q hj hq
          show p < q
          omega
      · have e : best S bd (n + 1) = best S bd n := by simp only [best, hc, if_neg hp]
        rw [e]
        refine ⟨fun j q hj hq => ?_, i2, fun k hk => ?_⟩
        · by_cases ej : j = n
          · subst ej; rw [hc] at hq; cases hq; omega
          · exact i1 j q (by omega) hq
        · obtain ⟨a, b⟩ := i3 k hk; exact ⟨by omega, b⟩

theorem next_lt {S : Vg} {k : Nat} (h : nextO S = some k) : k < 64 := ((best_spec S _ 64).2.2 k h).1
theorem next_some {S : Vg} {k : Nat} (h : nextO S = some k) : ∃ p l, S.pe k = some (p, l) ∧ S.ac k = none ∧ S.off k = false ∧ p < S.mask ∧ p < run S ∧ ∀ j q, j < 64 → cand S j = some q → p < q ∨ (p = q ∧ k ≤ j) := by
  obtain ⟨h1, _, h3⟩ := best_spec S (min S.mask (run S)) 64
  obtain ⟨a, b, c, d⟩ := h3 k h
  obtain ⟨⟨l, hl⟩, h4, h5⟩ := cand_is.mp b
  refine ⟨_, l, hl, h4, h5, by omega, by omega, fun j q hj hq => ?_⟩
  have e1 := h1 j q hj hq
  by_cases hjk : j < k
  · exact Or.inl (d j q hjk hq)
  · omega
theorem next_none {S : Vg} (h : nextO S = none) : ∀ j q, j < 64 → cand S j = some q → S.mask ≤ q ∨ run S ≤ q := by
  obtain ⟨h1, h2, _⟩ := best_spec S (min S.mask (run S)) 64
  intro j q hj hq
  have := h1 j q hj hq
  rw [h2 h] at this
  omega

/-! ### all of them -/
structure Lr where
  id : Int
  p : Int
  lv : Bool
  pe : Bool
  ac : Bool
  deriving DecidableEq, Inhabited

def reg (S : Vg) (k : Nat) : Lr := match S.ac k with
  | some (p, l) => ⟨k, p, l, (S.pe k).isSome, true⟩
  | none => match S.pe k with
    | some (p, l) => ⟨k, p, l, true, false⟩
    | none => ⟨k, 0, false, false, false⟩

def here (S : Vg) (k : Nat) : Bool := (S.pe k).isSome || (S.ac k).isSome
theorem reg_id (S : Vg) (k : Nat) : (reg S k).id = k := by
  unfold reg
  cases S.ac k with
  | some q => rfl
  | none => cases S.pe k <;> rfl
theorem reg_ac (S : Vg) (k : Nat) : (reg S k).ac = (S.ac k).isSome := by
  unfold reg
  cases h : S.ac k with
  | some q => rfl
  | none => cases S.pe k <;> rfl
theorem reg_pe (S : Vg) (k : Nat) : (reg S k).pe = (S.pe k).isSome := by
  unfold reg
  cases h : S.ac k with
  | some q => rfl
  | none => cases S.pe k <;> rfl

/-- By their numbers. -/
def baseL (S : Vg) : Nat → List Lr
  | 0 => []
  | k + 1 => baseL S k ++ (if here S k then [reg S k] else [])
/-- Those that are active with that priority; those that are pending alone with it. -/
def inA (S : Vg) (p : Nat) : Nat → List Lr
  | 0 => []
  | k + 1 => inA S p k ++ (match S.ac k with
    | some (q, _) => if q = (p : Int) then [reg S k] else []
    | none => [])
def inP (S : Vg) (p : Nat) : Nat → List Lr
  | 0 => []
  | k + 1 => inP S p k ++ (match S.ac k, S.pe k with
    | none, some (q, _) => if q = (p : Int) then [reg S k] else []
    | _, _ => [])
def outA (S : Vg) : Nat → List Lr
  | 0 => []
  | p + 1 => outA S p ++ inA S p 64
def outP (S : Vg) : Nat → List Lr
  | 0 => []
  | p + 1 => outP S p ++ inP S p 64
def allL (S : Vg) : List Lr := outA S 256 ++ outP S 256

def ltr (x y : Lr) : Prop := (x.ac = true ∧ y.ac = false) ∨ (x.ac = y.ac ∧ (x.p < y.p ∨ (x.p = y.p ∧ x.id < y.id)))

theorem mem_inA (S : Vg) (p n : Nat) (x : Lr) : x ∈ inA S p n ↔ ∃ k l, k < n ∧ S.ac k = some ((p : Int), l) ∧ x = reg S k := by
  induction n with
  | zero => simp [inA]
  | succ n ih =>
    simp only [inA, List.mem_append, ih]
    constructor
    · rintro (⟨k, l, hk, h⟩ | h)
      · exact ⟨k, l, by omega, h⟩
      · cases hc : S.ac n with
        | none => rw [hc] at h; simp at h
        | some q =>
          obtain ⟨q, l⟩ := q
          rw [hc] at h
          by_cases e : q = (p : Int)
          · subst e; simp at h; exact ⟨n, l, by omega, hc, h⟩
          · simp [e] at h
    · rintro ⟨k, l, hk, h, rfl⟩
      by_cases e : k = n
      · subst e; right; rw [h]; simp
      · exact Or.inl ⟨k, l, by omega, h, rfl⟩
theorem mem_inP (S : Vg) (p n : Nat) (x : Lr) : x ∈ inP S p n ↔ ∃ k l, k < n ∧ S.ac k = none ∧ S.pe k = some ((p : Int), l) ∧ x = reg S k := by
  induction n with
  | zero => simp [inP]
  | succ n ih =>
    simp only [inP, List.mem_append, ih]
    constructor
    · rintro (⟨k, l, hk, h⟩ | h)
      · exact ⟨k, l, by omega, h⟩
      · cases hc : S.ac n with
        | some q => rw [hc] at h; simp at h
        | none =>
          rw [hc] at h
          cases hp : S.pe n with
          | none => rw [hp] at h; simp at h
          | some q =>
            obtain ⟨q, l⟩ := q
            rw [hp] at h
            by_cases e : q = (p : Int)
            · subst e; simp at h; exact ⟨n, l, by omega, hc, hp, h⟩
            · simp [e] at h
    · rintro ⟨k, l, hk, h, h', rfl⟩
      by_cases e : k = n
      · subst e; right; rw [h, h']; simp
      · exact Or.inl ⟨k, l, by omega, h, h', rfl⟩
theorem mem_outA (S : Vg) (n : Nat) (x : Lr) : x ∈ outA S n ↔ ∃ p k l, p < n ∧ k < 64 ∧ S.ac k = some ((p : Int), l) ∧ x = reg S k := by
  induction n with
  | zero => simp [outA]
  | succ n ih =>
    simp only [outA, List.mem_append, ih, mem_inA]
    constructor
    · rintro (⟨p, k, l, hp, h⟩ | ⟨k, l, hk, h⟩)
      · exact ⟨p, k, l, by omega, h⟩
      · exact ⟨n, k, l, by omega, hk, h⟩
    · rintro ⟨p, k, l, hp, hk, h⟩
      by_cases e : p = n
      · subst e; exact Or.inr ⟨k, l, hk, h⟩
      · exact Or.inl ⟨p, k, l, by omega, hk, h⟩
theorem mem_outP (S : Vg) (n : Nat) (x : Lr) : x ∈ outP S n ↔ ∃ p k l, p < n ∧ k < 64 ∧ S.ac k = none ∧ S.pe k = some ((p : Int), l) ∧ x = reg S k := by
  induction n with
  | zero => simp [outP]
  | succ n ih =>
    simp only [outP, List.mem_append, ih, mem_inP]
    constructor
    · rintro (⟨p, k, l, hp, h⟩ | ⟨k, l, hk, h⟩)
      · exact ⟨p, k, l, by omega, h⟩
      · exact ⟨n, k, l, by omega, hk, h⟩
    · rintro ⟨p, k, l, hp, hk, h⟩
      by_cases e : p = n
      · subst e; exact Or.inr ⟨k, l, hk, h⟩
      · exact Or.inl ⟨p, k, l, by omega, hk, h⟩
theorem mem_baseL (S : Vg) (n : Nat) (x : Lr) : x ∈ baseL S n ↔ ∃ k, k < n ∧ here S k = true ∧ x = reg S k := by
  induction n with
  | zero => simp [baseL]
  | succ n ih =>
    simp only [baseL, List.mem_append, ih]
    constructor
    · rintro (⟨k, hk, h⟩ | h)
      · exact ⟨k, by omega, h⟩
      · by_cases e : here S n = true
        · simp [e] at h; exact ⟨n, by omega, e, h⟩
        · simp [e] at h
    · rintro ⟨k, hk, h, rfl⟩
      by_cases e : k = n
      · subst e; right; simp [h]
      · exact Or.inl ⟨k, by omega, h, rfl⟩
theorem mem_allL {S : Vg} (g : Good S) (x : Lr) : x ∈ allL S ↔ ∃ k, k < 64 ∧ here S k = true ∧ x = reg S k := by
  simp only [allL, List.mem_append, mem_outA, mem_outP]
  constructor
  · rintro (⟨p, k, l, _, hk, h, rfl⟩ | ⟨p, k, l, _, hk, _, h, rfl⟩)
    · exact ⟨k, hk, by simp [here, h], rfl⟩
    · exact ⟨k, hk, by simp [here, h], rfl⟩
  · rintro ⟨k, hk, h, rfl⟩
    cases ha : S.ac k with
    | some q =>
      obtain ⟨q, l⟩ := q
      have := g.ac k q l ha
      exact Or.inl ⟨q.toNat, k, l, by omega, hk, by rw [ha, show ((q.toNat : Nat) : Int) = q by omega], rfl⟩
    | none =>
      cases hp : S.pe k with
      | none => simp [here, ha, hp] at h
      | some q =>
        obtain ⟨q, l⟩ := q
        have := g.pe k q l hp
        exact Or.inr ⟨q.toNat, k, l, by omega, hk, ha, by rw [hp, show ((q.toNat : Nat) : Int) = q by omega], rfl⟩

theorem reg_some {S : Vg} {k : Nat} {p : Int} {l : Bool} (h : S.ac k = some (p, l)) : reg S k = ⟨k, p, l, (S.pe k).isSome, true⟩ := by simp only [reg, h]
theorem reg_pend {S : Vg} {k : Nat} {p : Int} {l : Bool} (h : S.ac k = none) (h' : S.pe k = some (p, l)) : reg S k = ⟨k, p, l, true, false⟩ := by simp only [reg, h, h']

theorem sorted_inA (S : Vg) (p n : Nat) : (inA S p n).Pairwise ltr := by
  induction n with
  | zero => exact List.Pairwise.nil
  | succ n ih =>
    simp only [inA, List.pairwise_append]
    refine ⟨ih, ?_, ?_⟩
    · cases S.ac n with
      | none => exact List.Pairwise.nil
      | some q => simp only; split <;> simp
    · intro x hx y hy
      obtain ⟨k, l, hk, h, rfl⟩ := (mem_inA S p n x).mp hx
      cases hc : S.ac n with
      | none => rw [hc] at hy; simp at hy
      | some q =>
        obtain ⟨q, l'⟩ := q
        rw [hc] at hy
        by_cases e : q = (p : Int)
        · subst e
          simp at hy
          subst hy
          rw [reg_some h, reg_some hc]
          exact Or.inr ⟨rfl, Or.inr ⟨rfl, by show (k : Int) < (n : Int); omega⟩⟩
        · simp [e] at hy
theorem sorted_inP (S : Vg) (p n : Nat) : (inP S p n).Pairwise ltr := by
  induction n with
  | zero => exact List.Pairwise.nil
  | succ n ih =>
    simp only [inP, List.pairwise_append]
    refine ⟨ih, ?_, ?_⟩
    · split
      · split <;> simp
      · exact List.Pairwise.nil
    · intro x hx y hy
      obtain ⟨k, l, hk, h, h', rfl⟩ := (mem_inP S p n x).mp hx
      cases hc : S.ac n with
      | some q => rw [hc] at hy; simp at hy
      | none =>
        cases hp : S.pe n with
        | none => rw [hc, hp] at hy; simp at hy
        | some q =>
          obtain ⟨q, l'⟩ := q
          rw [hc, hp] at hy
          by_cases e : q = (p : Int)
          · subst e
            simp at hy
            subst hy
            rw [reg_pend h h', reg_pend hc hp]
            exact Or.inr ⟨rfl, Or.inr ⟨rfl, by show (k : Int) < (n : Int); omega⟩⟩
          · simp [e] at hy
theorem sorted_outA (S : Vg) (n : Nat) : (outA S n).Pairwise ltr := by
  induction n with
  | zero => exact List.Pairwise.nil
  | succ n ih =>
    simp only [outA, List.pairwise_append]
    refine ⟨ih, sorted_inA S n 64, ?_⟩
    intro x hx y hy
    obtain ⟨p, k, l, hp, _, h, rfl⟩ := (mem_outA S n x).mp hx
    obtain ⟨k', l', _, h', rfl⟩ := (mem_inA S n 64 y).mp hy
    rw [reg_some h, reg_some h']
    exact Or.inr ⟨rfl, Or.inl (by show (p : Int) < (n : Int); omega)⟩
theorem sorted_outP (S : Vg) (n : Nat) : (outP S n).Pairwise ltr := by
  induction n with
  | zero => exact List.Pairwise.nil
  | succ n ih =>
    simp only [outP, List.pairwise_append]
    refine ⟨ih, sorted_inP S n 64, ?_⟩
    intro x hx y hy
    obtain ⟨p, k, l, hp, _, h, h1, rfl⟩ := (mem_outP S n x).mp hx
    obtain ⟨k', l', _, h', h2, rfl⟩ := (mem_inP S n 64 y).mp hy
    rw [reg_pend h h1, reg_pend h' h2]
    exact Or.inr ⟨rfl, Or.inl (by show (p : Int) < (n : Int); omega)⟩
theorem sorted_allL (S : Vg) : (allL S).Pairwise ltr := by
  simp only [allL, List.pairwise_append]
  refine ⟨sorted_outA S 256, sorted_outP S 256, ?_⟩
  intro x hx y hy
  obtain ⟨p, k, l, hp, _, h, rfl⟩ := (mem_outA S 256 x).mp hx
  obtain ⟨p', k', l', _, _, h', h2, rfl⟩ := (mem_outP S 256 y).mp hy
  rw [reg_some h, reg_pend h' h2]
  exact Or.inl ⟨rfl, rfl⟩

theorem ltr_irr (x : Lr) : ¬ ltr x x := by rintro (⟨h, h'⟩ | ⟨_, h | ⟨_, h⟩⟩); rw [h] at h'; cases h'; omega; omega
theorem ltr_asym {x y : Lr} (h : ltr x y) (h' : ltr y x) : False := by
  rcases h with ⟨a, b⟩ | ⟨a, b⟩ <;> rcases h' with ⟨c, d⟩ | ⟨c, d⟩
  · rw [a] at d; cases d
  · rw [a, b] at c; cases c
  · rw [c, d] at a; cases a
  · omega

/-- There is one order alone. -/
theorem sorted_eq : ∀ {l l' : List Lr}, l.Pairwise ltr → l'.Pairwise ltr → (∀ x, x ∈ l ↔ x ∈ l') → l = l'
  | [], [], _, _, _ => rfl
  | [], y :: l', _, _, h => by have := (h y).mpr (by simp); simp at this
  | x :: l, [], _, _, h => by have := (h x).mp (by simp); simp at this
  | x :: l, y :: l', hp, hq, h => by
    obtain ⟨p1, p2⟩ := List.pairwise_cons.mp hp
    obtain ⟨q1, q2⟩ := List.pairwise_cons.mp hq
    obtain rfl : x = y := by
      rcases List.mem_cons.mp ((h x).mp (by simp)) with e | e
      · exact e
      · rcases List.mem_cons.mp ((h y).mpr (by simp)) with e' | e'
        · exact e'.symm
        · exact (ltr_asym (q1 x e) (p1 y e')).elim
    congr 1
    refine sorted_eq p2 q2 fun z => ⟨fun hz => ?_, fun hz => ?_⟩
    · rcases List.mem_cons.mp ((h z).mp (by simp [hz])) with e | e
      · subst e; exact (ltr_irr _ (p1 _ hz)).elim
      · exact e
    · rcases List.mem_cons.mp ((h z).mpr (by simp [hz])) with e | e
      · subst e; exact (ltr_irr _ (q1 _ hz)).elim
      · exact e

theorem base_apart (S : Vg) (n : Nat) : (baseL S n).Pairwise (fun x y => x.id ≠ y.id) := by
  induction n with
  | zero => exact List.Pairwise.nil
  | succ n ih =>
    simp only [baseL, List.pairwise_append]
    refine ⟨ih, by split <;> simp, ?_⟩
    intro x hx y hy
    obtain ⟨k, hk, _, rfl⟩ := (mem_baseL S n x).mp hx
    by_cases e : here S n = true
    · simp [e] at hy
      subst hy
      rw [reg_id, reg_id]
      omega
    · simp [e] at hy

/-- Whoever puts the same in that order has this list. -/
theorem all_of_sorted {S : Vg} (g : Good S) {l : List Lr} (hp : l.Perm (baseL S 64)) (hs : l.Pairwise (fun x y => ¬ ltr y x)) : l = allL S := by
  refine sorted_eq ?_ (sorted_allL S) fun x => ?_
  · have ha : l.Pairwise (fun x y => x.id ≠ y.id) := (hp.pairwise_iff (fun {_ _} h => Ne.symm h)).mpr (base_apart S 64)
    refine (hs.and ha).imp ?_
    rintro x y ⟨h, hne⟩
    have hn : ¬ ltr y x := h
    unfold ltr at hn ⊢
    cases hx : x.ac <;> cases hy : y.ac <;> simp only [hx, hy] at hn ⊢ <;> simp at hn ⊢ <;> omega
  · rw [hp.mem_iff, mem_baseL, mem_allL g]

theorem len_base (S : Vg) (n : Nat) : (baseL S n).length ≤ n := by
  induction n with
  | zero => simp [baseL]
  | succ n ih => simp only [baseL, List.length_append]; split <;> simp <;> omega
theorem len_all {S : Vg} (g : Good S) : (allL S).length ≤ 64 := by
  have h : (allL S).Perm (baseL S 64) := by
    rw [List.perm_ext_iff_of_nodup]
    · intro x; rw [mem_allL g, mem_baseL]
    · exact (sorted_allL S).imp (fun {x y} h e => by subst e; exact ltr_irr _ h)
    · exact (base_apart S 64).imp (fun {x y} h e => by subst e; exact h rfl)
  rw [h.length_eq]
  exact len_base S 64

end Go.Proofs.Ythkieoedidpkaaa
