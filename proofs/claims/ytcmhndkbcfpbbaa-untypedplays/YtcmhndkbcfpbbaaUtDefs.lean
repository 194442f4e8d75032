/-
  Regions of untyped memory as plain data: what package untyped's calls answer and leave. No program, no statement.
-/
import Derived.Test.YtcmhndkbcfpbbaaBase
namespace Go.Proofs.Ytcmhndkbcfpbbaa
open Go.RowKit

/-- A fact that the walk is not to see. -/
structure Hd (p : Prop) : Prop where
  out : p

def I64 (x : Int) : Prop := -9223372036854775808 ≤ x ∧ x ≤ 9223372036854775807

/-- A region: its first frame, how many, how many are given; a device's? -/
structure Rg where
  f : Int
  n : Int
  m : Int
  d : Bool

def R0 : Rg := ⟨0, 0, 0, false⟩
def eqG (a b : Rg) : Bool := a.f == b.f && a.n == b.n && a.m == b.m && a.d == b.d
theorem eqG_iff (a b : Rg) : eqG a b = true ↔ a = b := by
  obtain ⟨a1, a2, a3, a4⟩ := a
  obtain ⟨b1, b2, b3, b4⟩ := b
  simp [eqG, and_assoc]
theorem eqG_self (a : Rg) : eqG a a = true := (eqG_iff a a).2 rfl

def okR (x : Rg) : Bool := decide (0 ≤ x.f) && (decide (1 ≤ x.n) && decide (x.n ≤ 1024 - x.f)) && (decide (0 ≤ x.m) && decide (x.m ≤ x.n))
theorem okR_iff {x : Rg} : okR x = true ↔ 0 ≤ x.f ∧ 1 ≤ x.n ∧ x.n ≤ 1024 - x.f ∧ 0 ≤ x.m ∧ x.m ≤ x.n := by
  simp [okR, and_assoc]

def fnd : List Rg → Int → Option Rg
  | [], _ => none
  | n :: L, k => if n.f = k then some n else fnd L k

/-- Regions by rising First, all right. -/
structure GoodL (L : List Rg) : Prop where
  all : ∀ n ∈ L, okR n = true
  srt : L.Pairwise (fun a b => a.f < b.f)

theorem goodL_nil : GoodL [] := ⟨by simp, List.Pairwise.nil⟩

theorem fnd_mem {L : List Rg} {k : Int} {n : Rg} (h : fnd L k = some n) : n ∈ L ∧ n.f = k := by
  induction L with
  | nil => cases h
  | cons a L ih =>
    unfold fnd at h
    split at h
    · cases h; rename_i e; exact ⟨List.mem_cons_self, e⟩
    · exact ⟨List.mem_cons_of_mem _ (ih h).1, (ih h).2⟩

theorem fnd_none {L : List Rg} {k : Int} (h : fnd L k = none) : ∀ n ∈ L, n.f ≠ k := by
  induction L with
  | nil => simp
  | cons a L ih =>
    unfold fnd at h
    split at h
    · cases h
    · intro n hn
      rcases List.mem_cons.mp hn with rfl | hn
      · assumption
      · exact ih h n hn

theorem fnd_of_mem {L : List Rg} (g : L.Pairwise (fun a b => a.f < b.f)) {n : Rg} (h : n ∈ L) : fnd L n.f = some n := by
  induction L with
  | nil => cases h
  | cons a L ih =>
    unfold fnd
    rw [List.pairwise_cons] at g
    rcases List.mem_cons.mp h with rfl | h'
    · rw [if_pos rfl]
    · rw [if_neg (by have := g.1 n h'; omega)]; exact ih g.2 h'

theorem fnd_none_of {L : List Rg} {k : Int} (h : ∀ n ∈ L, n.f ≠ k) : fnd L k = none := by
  cases hf : fnd L k with
  | none => rfl
  | some n => exact absurd (fnd_mem hf).2 (h n (fnd_mem hf).1)

theorem GoodL.ok {L : List Rg} (g : GoodL L) {k : Int} {n : Rg} (h : fnd L k = some n) : 0 ≤ n.f ∧ 1 ≤ n.n ∧ n.n ≤ 1024 - n.f ∧ 0 ≤ n.m ∧ n.m ≤ n.n := okR_iff.1 (g.all n (fnd_mem h).1)

/-- Where in the list. -/
theorem fnd_at {L : List Rg} {k : Int} {n : Rg} (h : fnd L k = some n) : ∃ i, i < L.length ∧ L[i]? = some n ∧ ∀ j m, j < i → L[j]? = some m → m.f ≠ k := by
  induction L with
  | nil => cases h
  | cons a L ih =>
    unfold fnd at h
    split at h
    · cases h; exact ⟨0, by simp, rfl, fun j m hj => by omega⟩
    · rename_i e
      obtain ⟨i, h1, h2, h3⟩ := ih h
      refine ⟨i + 1, by simpa using h1, by simpa using h2, fun j m hj hm => ?_⟩
      cases j with
      | zero => simp at hm; subst hm; exact e
      | succ j => exact h3 j m (by omega) (by simpa using hm)

theorem len_le {L : List Rg} (g : GoodL L) : L.length ≤ 1024 := by
  have key : ∀ (L : List Rg) (b : Int), 0 ≤ b → b ≤ 1024 → L.Pairwise (fun a b => a.f < b.f) → (∀ n ∈ L, b ≤ n.f ∧ n.f < 1024) → (L.length : Int) ≤ 1024 - b := by
    intro L
    induction L with
    | nil => intro b _ _ _ _; simp; omega
    | cons a L ih =>
      intro b hb hb' g h
      rw [List.pairwise_cons] at g
      have ha := h a List.mem_cons_self
      have := ih (a.f + 1) (by omega) (by omega) g.2 (fun n hn => ⟨by have := g.1 n hn; omega, (h n (List.mem_cons_of_mem _ hn)).2⟩)
      simp only [List.length_cons]
      omega
  have := key L 0 (by omega) (by omega) g.srt (fun n hn => by have := okR_iff.1 (g.all n hn); omega)
  omega

/-! ### regions come and go -/
def addE (L : List Rg) (x : Rg) : Int := if okR x then (if (fnd L x.f).isSome then 130 else 0) else 1
def ins (n : Rg) : List Rg → List Rg
  | [] => [n]
  | m :: L => if n.f < m.f then n :: m :: L else m :: ins n L
def addS (L : List Rg) (x : Rg) : List Rg := if addE L x = 0 then ins x L else L
def drE (L : List Rg) (k : Int) : Int := if (fnd L k).isSome then 0 else 131
def del (L : List Rg) (k : Int) : List Rg := L.filter (fun n => decide (n.f ≠ k))
def getE (L : List Rg) (k : Int) : Int := if (fnd L k).isSome then 0 else 131
def getC (L : List Rg) (k : Int) : Rg := (fnd L k).getD R0
def setM (L : List Rg) (k m : Int) : List Rg := L.map fun n => if n.f = k then ⟨n.f, n.n, m, n.d⟩ else n

theorem mem_ins {n m : Rg} {L : List Rg} : m ∈ ins n L ↔ m = n ∨ m ∈ L := by
  induction L with
  | nil => simp [ins]
  | cons a L ih =>
    unfold ins
    split
    · simp
    · simp only [List.mem_cons, ih]
      constructor
      · rintro (h | h | h)
        · exact Or.inr (Or.inl h)
        · exact Or.inl h
        · exact Or.inr (Or.inr h)
      · rintro (h | h | h)
        · exact Or.inr (Or.inl h)
        · exact Or.inl h
        · exact Or.inr (Or.inr h)

theorem len_ins (n : Rg) (L : List Rg) : (ins n L).length = L.length + 1 := by
  induction L with
  | nil => rfl
  | cons a L ih =>
    unfold ins
    split
    · rfl
    · simp [ih]

theorem srt_ins {n : Rg} {L : List Rg} (g : L.Pairwise (fun a b => a.f < b.f)) (h : ∀ m ∈ L, m.f ≠ n.f) : (ins n L).Pairwise (fun a b => a.f < b.f) := by
  induction L with
  | nil => simp [ins]
  | cons a L ih =>
    rw [List.pairwise_cons] at g
    have ha := h a List.mem_cons_self
    unfold ins
    split
    · rename_i hlt
      rw [List.pairwise_cons]
      refine ⟨fun m hm => ?_, List.pairwise_cons.mpr g⟩
      rcases List.mem_cons.mp hm with rfl | hm
      · exact hlt
      · have := g.1 m hm; omega
    · rw [List.pairwise_cons]
      refine ⟨fun m hm => ?_, ih g.2 (fun m hm => h m (List.mem_cons_of_mem _ hm))⟩
      rcases mem_ins.mp hm with rfl | hm
      · omega
      · exact g.1 m hm

theorem fnd_ins {n : Rg} {L : List Rg} (h : fnd L n.f = none) (k : Int) : fnd (ins n L) k = if n.f = k then some n else fnd L k := by
  induction L with
  | nil => simp [ins, fnd]
  | cons a L ih =>
    have h' : a.f ≠ n.f ∧ fnd L n.f = none := by
      unfold fnd at h
      split at h
      · cases h
      · exact ⟨by assumption, h⟩
    unfold ins
    split
    · rw [fnd]
    · rw [fnd, ih h'.2]
      by_cases e : a.f = k
      · rw [if_pos e, if_neg (by rw [← e]; exact fun e' => h'.1 e'.symm), fnd, if_pos e]
      · rw [if_neg e]
        by_cases e' : n.f = k
        · rw [if_pos e', if_pos e']
        · rw [if_neg e', if_neg e', fnd, if_neg e]

theorem addE_zero {L : List Rg} {x : Rg} (h : addE L x = 0) : okR x = true ∧ fnd L x.f = none := by
  unfold addE at h
  split at h
  · split at h
    · cases h
    · rename_i h1 h2
      exact ⟨h1, by simpa using h2⟩
  · cases h

theorem good_ins {L : List Rg} {n : Rg} (g : GoodL L) (hn : okR n = true) (h : fnd L n.f = none) : GoodL (ins n L) :=
  ⟨fun m hm => by rcases mem_ins.mp hm with rfl | hm; exact hn; exact g.all m hm, srt_ins g.srt (fun m hm e => fnd_none h m hm (by rw [e]))⟩

theorem good_add {L : List Rg} (g : GoodL L) (x : Rg) : GoodL (addS L x) := by
  unfold addS
  split
  · rename_i h
    obtain ⟨h1, h2⟩ := addE_zero h
    exact good_ins g h1 h2
  · exact g

theorem mem_del {L : List Rg} {k : Int} {m : Rg} : m ∈ del L k ↔ m ∈ L ∧ m.f ≠ k := by simp [del]

theorem good_del {L : List Rg} (g : GoodL L) (k : Int) : GoodL (del L k) :=
  ⟨fun m hm => g.all m (mem_del.mp hm).1, g.srt.sublist List.filter_sublist⟩

theorem fnd_del (L : List Rg) (k j : Int) : fnd (del L k) j = if j = k then none else fnd L j := by
  induction L with
  | nil => simp [del, fnd]
  | cons a L ih =>
    unfold del at ih ⊢
    by_cases e : a.f = k
    · rw [List.filter_cons_of_neg (by simpa using e), ih]
      by_cases ej : j = k
      · rw [if_pos ej, if_pos ej]
      · rw [if_neg ej, if_neg ej, fnd, if_neg (by rw [e]; exact fun h => ej h.symm)]
    · rw [List.filter_cons_of_pos (by simpa using e)]
      rw [fnd, ih]
      by_cases ea : a.f = j
      · rw [if_pos ea, if_neg (by rw [← ea]; exact e), fnd, if_pos ea]
      · rw [if_neg ea, fnd, if_neg ea]

theorem del_none {L : List Rg} {k : Int} (h : fnd L k = none) : del L k = L := by
  unfold del
  rw [List.filter_eq_self]
  intro m hm
  have := fnd_none h m hm
  simpa using this

/-- Deleting the one at place i. -/
theorem del_at {L : List Rg} (g : GoodL L) {i : Nat} {n : Rg} (h : L[i]? = some n) : del L n.f = L.take i ++ L.drop (i + 1) := by
  have key : ∀ (L : List Rg) (i : Nat), L.Pairwise (fun a b => a.f < b.f) → L[i]? = some n → del L n.f = L.take i ++ L.drop (i + 1) := by
    intro L
    induction L with
    | nil => intro i _ h; simp at h
    | cons a L ih =>
      intro i g h
      rw [List.pairwise_cons] at g
      cases i with
      | zero =>
        simp at h
        subst h
        have : del L a.f = L := by
          unfold del
          rw [List.filter_eq_self]
          intro m hm
          have := g.1 m hm
          simp; omega
        unfold del at this ⊢
        rw [List.filter_cons_of_neg (by simp)]
        simpa using this
      | succ i =>
        have hi : L[i]? = some n := by simpa using h
        have hm : n ∈ L := List.mem_of_getElem? hi
        have := ih i g.2 hi
        unfold del at this ⊢
        rw [List.filter_cons_of_pos (by have := g.1 n hm; simp; omega), this]
        simp
  exact key L i g.srt h

theorem len_del {L : List Rg} {i : Nat} {n : Rg} (g : GoodL L) (h : L[i]? = some n) : L.length = (del L n.f).length + 1 := by
  have hi : i < L.length := by
    rcases Nat.lt_or_ge i L.length with h' | h'
    · exact h'
    · rw [List.getElem?_eq_none h'] at h; cases h
  rw [del_at g h]
  simp
  omega

theorem len_setM (L : List Rg) (k m : Int) : (setM L k m).length = L.length := by simp [setM]
theorem fnd_setM (L : List Rg) (k m j : Int) : fnd (setM L k m) j = (fnd L j).map fun n => if n.f = k then ⟨n.f, n.n, m, n.d⟩ else n := by
  induction L with
  | nil => rfl
  | cons a L ih =>
    unfold setM at ih ⊢
    rw [List.map_cons, fnd, ih, fnd]
    have e : (if a.f = k then (⟨a.f, a.n, m, a.d⟩ : Rg) else a).f = a.f := by split <;> rfl
    rw [e]
    split <;> rfl
theorem mem_setM {L : List Rg} {k m : Int} {x : Rg} (h : x ∈ setM L k m) : ∃ n ∈ L, x.f = n.f ∧ ((n.f = k ∧ x = ⟨n.f, n.n, m, n.d⟩) ∨ (n.f ≠ k ∧ x = n)) := by
  obtain ⟨n, hn, rfl⟩ := List.mem_map.mp h
  refine ⟨n, hn, ?_⟩
  split
  · exact ⟨rfl, Or.inl ⟨by assumption, rfl⟩⟩
  · exact ⟨rfl, Or.inr ⟨by assumption, rfl⟩⟩
theorem good_setM {L : List Rg} (g : GoodL L) {k m : Int} (h : ∀ n, fnd L k = some n → 0 ≤ m ∧ m ≤ n.n) : GoodL (setM L k m) := by
  refine ⟨fun x hx => ?_, ?_⟩
  · obtain ⟨n, hn, _, ⟨rfl, rfl⟩ | ⟨_, rfl⟩⟩ := mem_setM hx
    · have h1 := okR_iff.1 (g.all n hn)
      have h2 := h n (fnd_of_mem g.srt hn)
      exact okR_iff.2 ⟨h1.1, h1.2.1, h1.2.2.1, h2.1, h2.2⟩
    · exact g.all _ hn
  · unfold setM
    rw [List.pairwise_map]
    refine g.srt.imp fun {a b} h => ?_
    have e : ∀ a : Rg, (if a.f = k then (⟨a.f, a.n, m, a.d⟩ : Rg) else a).f = a.f := fun a => by split <;> rfl
    rw [e, e]; exact h
theorem setM_none {L : List Rg} {k m : Int} (h : fnd L k = none) : setM L k m = L := by
  unfold setM
  have : ∀ n ∈ L, (if n.f = k then (⟨n.f, n.n, m, n.d⟩ : Rg) else n) = n := fun n hn => if_neg (fnd_none h n hn)
  rw [List.map_congr_left this, List.map_id']
theorem setM_same {L : List Rg} (g : GoodL L) {k : Int} {x : Rg} (h : fnd L k = some x) : setM L k x.m = L := by
  unfold setM
  have : ∀ n ∈ L, (if n.f = k then (⟨n.f, n.n, x.m, n.d⟩ : Rg) else n) = n := fun n hn => by
    split
    · rename_i e
      have := fnd_of_mem g.srt hn
      rw [e, h] at this
      cases this
      rfl
    · rfl
  rw [List.map_congr_left this, List.map_id']
theorem setM_setM (L : List Rg) (k m m' : Int) : setM (setM L k m) k m' = setM L k m' := by
  unfold setM
  rw [List.map_map]
  refine List.map_congr_left fun n _ => ?_
  show (if (if n.f = k then (⟨n.f, n.n, m, n.d⟩ : Rg) else n).f = k then _ else _) = _
  by_cases e : n.f = k
  · simp [e]
  · simp [e]
/-- The one at place i turned. -/
theorem setM_at {L : List Rg} (g : GoodL L) {i : Nat} {n : Rg} (h : L[i]? = some n) (m : Int) : setM L n.f m = L.set i ⟨n.f, n.n, m, n.d⟩ := by
  refine List.ext_getElem? fun j => ?_
  unfold setM
  rw [List.getElem?_map, List.getElem?_set]
  have hi : i < L.length := by
    rcases Nat.lt_or_ge i L.length with h' | h'
    · exact h'
    · rw [List.getElem?_eq_none h'] at h; cases h
  by_cases e : i = j
  · subst e
    rw [if_pos rfl, if_pos hi, h]
    simp
  · rw [if_neg e]
    cases hj : L[j]? with
    | none => rfl
    | some x =>
      simp only [Option.map_some, Option.some.injEq]
      refine if_neg fun ef => e ?_
      have hs := List.pairwise_iff_getElem.1 g.srt
      have hj' : j < L.length := by
        rcases Nat.lt_or_ge j L.length with h' | h'
        · exact h'
        · rw [List.getElem?_eq_none h'] at hj; cases hj
      have e1 : L[i] = n := by rw [List.getElem?_eq_getElem hi] at h; exact Option.some.inj h
      have e2 : L[j] = x := by rw [List.getElem?_eq_getElem hj'] at hj; exact Option.some.inj hj
      rcases Nat.lt_trichotomy i j with q | q | q
      · have := hs i j hi hj' q; rw [e1, e2] at this; omega
      · exact q
      · have := hs j i hj' hi q; rw [e1, e2] at this; omega

/-! ### sizes and room -/
def sz2 (n : Int) : Bool := n == 1 || n == 2 || n == 4 || n == 8 || n == 16 || n == 32 || n == 64 || n == 128 || n == 256 || n == 512
def sizE (k n : Int) : Int := if k = 1 then (if sz2 n then 0 else 140) else if 2 ≤ k ∧ k ≤ 8 then (if n = 1 then 0 else 140) else 141
def sizV (k n : Int) : Int := if sizE k n = 0 then n else 0
theorem sz2_cases {n : Int} (h : sz2 n = true) : n = 1 ∨ n = 2 ∨ n = 4 ∨ n = 8 ∨ n = 16 ∨ n = 32 ∨ n = 64 ∨ n = 128 ∨ n = 256 ∨ n = 512 := by
  simp only [sz2, Bool.or_eq_true, beq_iff_eq] at h
  omega
theorem sizE_zero {k n : Int} (h : sizE k n = 0) : 1 ≤ n ∧ n ≤ 512 ∧ 1 ≤ k ∧ k ≤ 8 := by
  unfold sizE at h
  split at h
  · split at h
    · rename_i h'
      have := sz2_cases h'
      omega
    · cases h
  · split at h
    · split at h
      · omega
      · cases h
    · cases h
theorem sizE_bad {k n : Int} (h : sizE k n ≠ 0) : sizE k n = 140 ∨ sizE k n = 141 := by
  unfold sizE at h ⊢
  split
  · rename_i e
    rw [if_pos e] at h
    split
    · rename_i e'; rw [if_pos e'] at h; exact absurd rfl h
    · exact Or.inl rfl
  · rename_i e
    rw [if_neg e] at h
    split
    · rename_i e'
      rw [if_pos e'] at h
      split
      · rename_i e''; rw [if_pos e''] at h; exact absurd rfl h
      · exact Or.inl rfl
    · exact Or.inr rfl

/-- The least multiple of s that is n or above. -/
def upTo (n s : Int) : Int := (n + s - 1) / s * s
theorem upTo_le {n s : Int} (h1 : 1 ≤ s) : n ≤ upTo n s ∧ upTo n s < n + s ∧ upTo n s % s = 0 := by
  unfold upTo
  have h := Int.mul_ediv_add_emod (n + s - 1) s
  have h2 := Int.emod_nonneg (n + s - 1) (show s ≠ 0 by omega)
  have h3 := Int.emod_lt_of_pos (n + s - 1) (show 0 < s by omega)
  rw [Int.mul_comm] at h
  refine ⟨by omega, by omega, ?_⟩
  exact Int.mul_emod_left _ _

def devB (k : Int) : Bool := k == 1 || k == 6
/-- Room of one region. -/
def rmE (x : Rg) (k n c : Int) : Int :=
  if sizE k n ≠ 0 then sizE k n
  else if ¬ (1 ≤ c ∧ c ≤ 8) then 1
  else if x.d = true ∧ devB k = false then 141
  else if x.f + x.n < upTo (x.f + x.m) n + c * n then 140 else 0
def rooE (L : List Rg) (f k n c : Int) : Int := match fnd L f with
  | none => 131
  | some x => rmE x k n c
def rooV (L : List Rg) (f k n c : Int) : Int := match fnd L f with
  | none => 0
  | some x => if rmE x k n c = 0 then upTo (x.f + x.m) n else 0
def carS (L : List Rg) (f k n c : Int) : List Rg := if rooE L f k n c = 0 then setM L f (rooV L f k n c + c * n - f) else L

theorem rmE_zero {x : Rg} {k n c : Int} (h : rmE x k n c = 0) : sizE k n = 0 ∧ (1 ≤ c ∧ c ≤ 8) ∧ ¬ (x.d = true ∧ devB k = false) ∧ upTo (x.f + x.m) n + c * n ≤ x.f + x.n := by
  unfold rmE at h
  split at h
  · rename_i h'; exact absurd h h'
  · rename_i h1
    split at h
    · cases h
    · rename_i h2
      split at h
      · cases h
      · rename_i h3
        split at h
        · cases h
        · rename_i h4
          exact ⟨Classical.not_not.1 h1, Classical.not_not.1 h2, h3, by omega⟩

theorem rooE_zero {L : List Rg} {f k n c : Int} (h : rooE L f k n c = 0) : ∃ x, fnd L f = some x ∧ rmE x k n c = 0 ∧ rooV L f k n c = upTo (x.f + x.m) n := by
  unfold rooE at h
  cases hf : fnd L f with
  | none => rw [hf] at h; cases h
  | some x =>
    rw [hf] at h
    refine ⟨x, rfl, h, ?_⟩
    unfold rooV
    rw [hf]
    exact if_pos h
theorem rooV_bad {L : List Rg} {f k n c : Int} (h : rooE L f k n c ≠ 0) : rooV L f k n c = 0 := by
  unfold rooE at h
  unfold rooV
  cases hf : fnd L f with
  | none => rfl
  | some x => rw [hf] at h; exact if_neg h

/-- What Carve leaves may be. -/
theorem carve_ok {x : Rg} (hx : 0 ≤ x.f ∧ 1 ≤ x.n ∧ x.n ≤ 1024 - x.f ∧ 0 ≤ x.m ∧ x.m ≤ x.n) {k n c : Int} (h : rmE x k n c = 0) : x.m + 1 ≤ upTo (x.f + x.m) n + c * n - x.f ∧ upTo (x.f + x.m) n + c * n - x.f ≤ x.n ∧ x.f + x.m ≤ upTo (x.f + x.m) n ∧ upTo (x.f + x.m) n ≤ 1024 := by
  obtain ⟨h1, h2, _, h4⟩ := rmE_zero h
  have hs := sizE_zero h1
  have hu := upTo_le (n := x.f + x.m) hs.1
  have hm : 1 ≤ c * n := by
    have := Int.mul_le_mul h2.1 hs.1 (by omega) (by omega)
    omega
  omega

theorem good_car {L : List Rg} (g : GoodL L) (f k n c : Int) : GoodL (carS L f k n c) := by
  unfold carS
  split
  · rename_i h
    obtain ⟨x, hf, hr, hv⟩ := rooE_zero h
    refine good_setM g fun y hy => ?_
    rw [hf] at hy
    cases hy
    have := carve_ok (g.ok hf) hr
    have e := (fnd_mem hf).2
    rw [hv]
    have := g.ok hf
    omega
  · exact g

/-! ### reset: u the units left (nobody is below 0 that was not), m the mark -/
def rstN (u m : Int) : Int := min (max 0 u) m
def rstE (L : List Rg) (k u : Int) : Int := match fnd L k with
  | none => 131
  | some x => if x.m ≤ max 0 u then 0 else 3
def rstU (L : List Rg) (k u : Int) : Int := match fnd L k with
  | none => u
  | some x => u - rstN u x.m
def rstS (L : List Rg) (k u : Int) : List Rg := match fnd L k with
  | none => L
  | some x => setM L k (x.m - rstN u x.m)

theorem good_rst {L : List Rg} (g : GoodL L) (k u : Int) : GoodL (rstS L k u) := by
  unfold rstS
  cases hf : fnd L k with
  | none => exact g
  | some x =>
    refine good_setM g fun y hy => ?_
    rw [hf] at hy
    cases hy
    have := g.ok hf
    unfold rstN
    omega

end Go.Proofs.Ytcmhndkbcfpbbaa
