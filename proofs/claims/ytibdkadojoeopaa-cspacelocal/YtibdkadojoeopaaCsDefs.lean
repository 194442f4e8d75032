/-
  Nodes, slots and addresses as plain data: what package cspace's calls answer and leave. No program, no statement.
-/
import Derived.Test.YtibdkadojoeopaaCapPure
namespace Go.Proofs.Ytibdkadojoeopaa
open Go.RowKit

/-- A node: its number, its radix, its slots. -/
structure Nd where
  id : Nat
  rx : Nat
  sl : Nat → K

/-- A slot's name. -/
structure Rf where
  n : Int
  i : Int

theorem Rf.ext' {a b : Rf} (h1 : a.n = b.n) (h2 : a.i = b.i) : a = b := by cases a; cases b; simp_all

def eqR (a b : Rf) : Bool := a.n == b.n && a.i == b.i
theorem eqR_iff (a b : Rf) : eqR a b = true ↔ a = b := by
  constructor
  · intro h
    simp only [eqR, Bool.and_eq_true, beq_iff_eq] at h
    exact Rf.ext' h.1 h.2
  · rintro rfl; simp [eqR]
theorem eqR_self (a : Rf) : eqR a a = true := (eqR_iff a a).2 rfl

def updK (f : Nat → K) (j : Nat) (c : K) : Nat → K := fun i => if i = j then c else f i
theorem updK_same (f : Nat → K) (j : Nat) (c : K) : updK f j c j = c := by simp [updK]
theorem updK_other (f : Nat → K) {j i : Nat} (c : K) (h : i ≠ j) : updK f j c i = f i := by simp [updK, h]

def fnd : List Nd → Int → Option Nd
  | [], _ => none
  | n :: L, k => if (n.id : Int) = k then some n else fnd L k

structure GoodN (n : Nd) : Prop where
  id : n.id < 1024
  lo : 1 ≤ n.rx
  hi : n.rx ≤ 4
  sl : ∀ j, j < 2 ^ n.rx → rightC (n.sl j) = true

/-- Nodes by rising numbers, all right. -/
structure GoodL (L : List Nd) : Prop where
  all : ∀ n ∈ L, GoodN n
  srt : L.Pairwise (fun a b => a.id < b.id)

theorem goodL_nil : GoodL [] := ⟨by simp, List.Pairwise.nil⟩

theorem fnd_mem {L : List Nd} {k : Int} {n : Nd} (h : fnd L k = some n) : n ∈ L ∧ (n.id : Int) = k := by
  induction L with
  | nil => cases h
  | cons a L ih =>
    unfold fnd at h
    split at h
    · cases h; rename_i e; exact ⟨List.mem_cons_self, e⟩
    · exact ⟨List.mem_cons_of_mem _ (ih h).1, (ih h).2⟩

theorem fnd_none {L : List Nd} {k : Int} (h : fnd L k = none) : ∀ n ∈ L, (n.id : Int) ≠ k := by
  induction L with
  | nil => simp
  | cons a L ih =>
    unfold fnd at h
    split at h
    · cases h
    · intro n hn
      rcases List.mem_cons.mp hn with rfl | hn
      · assumption
      · exact ih h n hn

theorem fnd_of_mem {L : List Nd} (g : L.Pairwise (fun a b => a.id < b.id)) {n : Nd} (h : n ∈ L) : fnd L n.id = some n := by
  induction L with
  | nil => cases h
  | cons a L ih =>
    unfold fnd
    rw [List.pairwise_cons] at g
    rcases List.mem_cons.mp h with rfl | h'
    · rw [if_pos rfl]
    · rw [if_neg (by have := g.1 n h'; omega)]; exact ih g.2 h'

theorem fnd_none_of {L : List Nd} {k : Int} (h : ∀ n ∈ L, (n.id : Int) ≠ k) : fnd L k = none := by
  cases hf : fnd L k with
  | none => rfl
  | some n => exact absurd (fnd_mem hf).2 (h n (fnd_mem hf).1)

theorem GoodL.nd {L : List Nd} (g : GoodL L) {k : Int} {n : Nd} (h : fnd L k = some n) : GoodN n := g.all n (fnd_mem h).1

/-- Where in the list. -/
theorem fnd_at {L : List Nd} {k : Int} {n : Nd} (h : fnd L k = some n) : ∃ i, i < L.length ∧ L[i]? = some n ∧ ∀ j m, j < i → L[j]? = some m → (m.id : Int) ≠ k := by
  induction L with
  | nil => cases h
  | cons a L ih =>
    unfold fnd at h
    split at h
    · cases h; exact ⟨0, by simp, rfl, fun j m hj => by omega⟩
    · rename_i e
      obtain ⟨i, h1, h2, h3⟩ := ih h
      refine ⟨i + 1, by simpa using h1, by simpa using h2, fun j m hj hm => ?_⟩
      cases j with
      | zero => simp at hm; subst hm; exact e
      | succ j => exact h3 j m (by omega) (by simpa using hm)

theorem len_le {L : List Nd} (g : GoodL L) : L.length ≤ 1024 := by
  have key : ∀ (L : List Nd) (b : Nat), L.Pairwise (fun a b => a.id < b.id) → (∀ n ∈ L, b ≤ n.id ∧ n.id < 1024) → L.length ≤ 1024 - b := by
    intro L
    induction L with
    | nil => intro b _ _; simp
    | cons a L ih =>
      intro b g h
      rw [List.pairwise_cons] at g
      have ha := h a List.mem_cons_self
      have := ih (a.id + 1) g.2 (fun n hn => ⟨g.1 n hn, (h n (List.mem_cons_of_mem _ hn)).2⟩)
      simp only [List.length_cons]
      omega
  simpa using key L 0 g.srt (fun n hn => ⟨by omega, (g.all n hn).id⟩)

/-! ### nodes come and go -/
def okA (id rx : Int) : Bool := (decide (0 ≤ id) && decide (id ≤ 1023)) && (decide (1 ≤ rx) && decide (rx ≤ 4))
def addE (L : List Nd) (id rx : Int) : Int := if okA id rx then (if (fnd L id).isSome then 130 else 0) else 1
def ins (n : Nd) : List Nd → List Nd
  | [] => [n]
  | a :: L => if n.id < a.id then n :: a :: L else a :: ins n L
def newN (id rx : Int) : Nd := ⟨id.toNat, rx.toNat, fun _ => K0⟩
def addS (L : List Nd) (id rx : Int) : List Nd := if addE L id rx = 0 then ins (newN id rx) L else L

def fulN (n : Nd) : Nat → Bool
  | 0 => false
  | j + 1 => fulN n j || (n.sl j).k != 0
theorem fulN_iff (n : Nd) (m : Nat) : fulN n m = true ↔ ∃ j, j < m ∧ (n.sl j).k ≠ 0 := by
  induction m with
  | zero => simp [fulN]
  | succ m ih =>
    simp only [fulN, Bool.or_eq_true, ih, bne_iff_ne]
    constructor
    · rintro (⟨j, h1, h2⟩ | h)
      · exact ⟨j, by omega, h2⟩
      · exact ⟨m, by omega, h⟩
    · rintro ⟨j, h1, h2⟩
      by_cases e : j = m
      · subst e; exact Or.inr h2
      · exact Or.inl ⟨j, by omega, h2⟩
def drE (L : List Nd) (id : Int) : Int := match fnd L id with
  | none => 120
  | some n => if fulN n (2 ^ n.rx) then 130 else 0
def del (L : List Nd) (id : Int) : List Nd := L.filter (fun n => decide ((n.id : Int) ≠ id))
def drS (L : List Nd) (id : Int) : List Nd := if drE L id = 0 then del L id else L
def radS (L : List Nd) (id : Int) : Int := match fnd L id with
  | none => 0
  | some n => n.rx

/-! ### slots -/
def getE (L : List Nd) (a : Rf) : Int := match fnd L a.n with
  | none => 120
  | some n => if 0 ≤ a.i ∧ a.i < 2 ^ n.rx then 0 else 1
def getC (L : List Nd) (a : Rf) : K := match fnd L a.n with
  | none => K0
  | some n => if 0 ≤ a.i ∧ a.i < 2 ^ n.rx then n.sl a.i.toNat else K0
def putE (L : List Nd) (a : Rf) (c : K) : Int := if getE L a = 0 then (if rightC c then 0 else 141) else getE L a
def setN (L : List Nd) (a : Rf) (c : K) : List Nd := L.map fun n => if (n.id : Int) = a.n then ⟨n.id, n.rx, updK n.sl a.i.toNat c⟩ else n
def putS (L : List Nd) (a : Rf) (c : K) : List Nd := if putE L a c = 0 then setN L a c else L

def fulR (n : Nd) : Nat → List Rf
  | 0 => []
  | j + 1 => fulR n j ++ if (n.sl j).k != 0 then [⟨n.id, j⟩] else []
def fulL (L : List Nd) : List Rf := L.flatMap fun n => fulR n (2 ^ n.rx)

/-! ### addresses -/
def bitV (w l n : Nat) : Nat := w / 2 ^ l % 2 ^ n
structure Rs where
  at' : Rf
  left : Int
  e : Int
def bad (e : Int) : Rs := ⟨⟨0, 0⟩, 0, e⟩

/-- One node further: what is taken of an address, or why not. -/
def stepE (L : List Nd) (c : K) (w l : Nat) : Int :=
  if l < c.n.toNat then 122
  else if (bitV w (l - c.n.toNat) c.n.toNat : Int) ≠ c.g then 122
  else if l - c.n.toNat < c.x.toNat then 123
  else if radS L c.o ≠ c.x then 120
  else 0
def stepL (c : K) (l : Nat) : Nat := l - c.n.toNat - c.x.toNat
def stepA (c : K) (w l : Nat) : Rf := ⟨c.o, bitV w (stepL c l) c.x.toNat⟩

def resF (L : List Nd) : Nat → K → Nat → Nat → Rs
  | 0, _, _, _ => bad 120
  | f + 1, c, w, l =>
    if stepE L c w l ≠ 0 then bad (stepE L c w l)
    else if stepL c l = 0 ∨ (getC L (stepA c w l)).k ≠ 2 then ⟨stepA c w l, stepL c l, 0⟩
    else resF L f (getC L (stepA c w l)) w (stepL c l)

def resR (L : List Nd) (c : K) (w : Nat) (d : Int) : Rs :=
  if (c.k == 2 && rightC c) = true then (if 1 ≤ d ∧ d ≤ 16 then resF L 16 c w d.toNat else bad 123) else bad 121
def slotE (L : List Nd) (c : K) (w : Nat) (d : Int) : Int := if (resR L c w d).e ≠ 0 then (resR L c w d).e else if 0 < (resR L c w d).left then 123 else 0
def slotA (L : List Nd) (c : K) (w : Nat) (d : Int) : Rf := if slotE L c w d = 0 then (resR L c w d).at' else ⟨0, 0⟩
def lookE (L : List Nd) (c : K) (w : Nat) : Int := if (resR L c w 16).e ≠ 0 then (resR L c w 16).e else if (getC L (resR L c w 16).at').k = 0 then 121 else 0
def lookA (L : List Nd) (c : K) (w : Nat) : Rf := if lookE L c w = 0 then (resR L c w 16).at' else ⟨0, 0⟩
def lookC (L : List Nd) (c : K) (w : Nat) : K := if lookE L c w = 0 then getC L (resR L c w 16).at' else K0

/-! ### all stays right -/
theorem right_K0 : rightC K0 = true := by decide +kernel

theorem okA_iff {id rx : Int} : okA id rx = true ↔ (0 ≤ id ∧ id ≤ 1023) ∧ 1 ≤ rx ∧ rx ≤ 4 := by simp [okA]

theorem mem_ins {n m : Nd} {L : List Nd} : m ∈ ins n L ↔ m = n ∨ m ∈ L := by
  induction L with
  | nil => simp [ins]
  | cons a L ih =>
    unfold ins
    split
    · simp
    · simp only [List.mem_cons, ih]
      constructor
      · rintro (h | h | h)
        · exact Or.inr (Or.inl h)
        · exact Or.inl h
        · exact Or.inr (Or.inr h)
      · rintro (h | h | h)
        · exact Or.inr (Or.inl h)
        · exact Or.inl h
        · exact Or.inr (Or.inr h)

theorem len_ins (n : Nd) (L : List Nd) : (ins n L).length = L.length + 1 := by
  induction L with
  | nil => rfl
  | cons a L ih =>
    unfold ins
    split
    · rfl
    · simp [ih]

theorem srt_ins {n : Nd} {L : List Nd} (g : L.Pairwise (fun a b => a.id < b.id)) (h : ∀ m ∈ L, m.id ≠ n.id) : (ins n L).Pairwise (fun a b => a.id < b.id) := by
  induction L with
  | nil => simp [ins]
  | cons a L ih =>
    rw [List.pairwise_cons] at g
    have ha := h a List.mem_cons_self
    unfold ins
    split
    · rename_i hlt
      rw [List.pairwise_cons]
      refine ⟨fun m hm => ?_, List.pairwise_cons.mpr g⟩
      rcases List.mem_cons.mp hm with rfl | hm
      · exact hlt
      · have := g.1 m hm; omega
    · rw [List.pairwise_cons]
      refine ⟨fun m hm => ?_, ih g.2 (fun m hm => h m (List.mem_cons_of_mem _ hm))⟩
      rcases mem_ins.mp hm with rfl | hm
      · omega
      · exact g.1 m hm

theorem fnd_ins {n : Nd} {L : List Nd} (h : fnd L n.id = none) (k : Int) : fnd (ins n L) k = if (n.id : Int) = k then some n else fnd L k := by
  induction L with
  | nil => simp [ins, fnd]
  | cons a L ih =>
    have h' : (a.id : Int) ≠ n.id ∧ fnd L n.id = none := by
      unfold fnd at h
      split at h
      · cases h
      · exact ⟨by assumption, h⟩
    unfold ins
    split
    · rw [fnd]
    · rw [fnd, ih h'.2]
      by_cases e : (a.id : Int) = k
      · rw [if_pos e, if_neg (by rw [← e]; exact fun e' => h'.1 e'.symm), fnd, if_pos e]
      · rw [if_neg e]
        by_cases e' : (n.id : Int) = k
        · rw [if_pos e', if_pos e']
        · rw [if_neg e', if_neg e', fnd, if_neg e]

theorem addE_zero {L : List Nd} {id rx : Int} (h : addE L id rx = 0) : okA id rx = true ∧ fnd L id = none := by
  unfold addE at h
  split at h
  · split at h
    · cases h
    · rename_i h1 h2
      exact ⟨h1, by simpa using h2⟩
  · cases h

theorem newN_id {id rx : Int} (h : okA id rx = true) : ((newN id rx).id : Int) = id := by
  have := (okA_iff.mp h).1
  show (id.toNat : Int) = id
  omega

theorem goodN_new {id rx : Int} (h : okA id rx = true) : GoodN (newN id rx) := by
  obtain ⟨h1, h2, h3⟩ := okA_iff.mp h
  exact ⟨by show id.toNat < 1024; omega, by show 1 ≤ rx.toNat; omega, by show rx.toNat ≤ 4; omega, fun _ _ => right_K0⟩

theorem good_ins {L : List Nd} {n : Nd} (g : GoodL L) (hn : GoodN n) (h : fnd L n.id = none) : GoodL (ins n L) :=
  ⟨fun m hm => by rcases mem_ins.mp hm with rfl | hm; exact hn; exact g.all m hm, srt_ins g.srt (fun m hm e => fnd_none h m hm (by rw [e]))⟩

theorem good_add {L : List Nd} (g : GoodL L) (id rx : Int) : GoodL (addS L id rx) := by
  unfold addS
  split
  · rename_i h
    obtain ⟨h1, h2⟩ := addE_zero h
    exact good_ins g (goodN_new h1) (by rw [newN_id h1]; exact h2)
  · exact g

theorem mem_del {L : List Nd} {k : Int} {m : Nd} : m ∈ del L k ↔ m ∈ L ∧ (m.id : Int) ≠ k := by simp [del]

theorem good_del {L : List Nd} (g : GoodL L) (k : Int) : GoodL (del L k) :=
  ⟨fun m hm => g.all m (mem_del.mp hm).1, g.srt.sublist List.filter_sublist⟩

theorem good_dr {L : List Nd} (g : GoodL L) (k : Int) : GoodL (drS L k) := by
  unfold drS
  split
  · exact good_del g k
  · exact g

theorem fnd_del (L : List Nd) (k j : Int) : fnd (del L k) j = if j = k then none else fnd L j := by
  induction L with
  | nil => simp [del, fnd]
  | cons a L ih =>
    unfold del at ih ⊢
    by_cases e : (a.id : Int) = k
    · rw [List.filter_cons_of_neg (by simpa using e), ih]
      by_cases ej : j = k
      · rw [if_pos ej, if_pos ej]
      · rw [if_neg ej, if_neg ej, fnd, if_neg (by rw [e]; exact fun h => ej h.symm)]
    · rw [List.filter_cons_of_pos (by simpa using e)]
      rw [fnd, ih]
      by_cases ea : (a.id : Int) = j
      · rw [if_pos ea, if_neg (by rw [← ea]; exact e), fnd, if_pos ea]
      · rw [if_neg ea, fnd, if_neg ea]

/-- Deleting the one at place i. -/
theorem del_at {L : List Nd} (g : GoodL L) {i : Nat} {n : Nd} (h : L[i]? = some n) : del L n.id = L.take i ++ L.drop (i + 1) := by
  have key : ∀ (L : List Nd) (i : Nat), L.Pairwise (fun a b => a.id < b.id) → L[i]? = some n → del L n.id = L.take i ++ L.drop (i + 1) := by
    intro L
    induction L with
    | nil => intro i _ h; simp at h
    | cons a L ih =>
      intro i g h
      rw [List.pairwise_cons] at g
      cases i with
      | zero =>
        simp at h
        subst h
        have : del L a.id = L := by
          unfold del
          rw [List.filter_eq_self]
          intro m hm
          have := g.1 m hm
          simp; omega
        unfold del at this ⊢
        rw [List.filter_cons_of_neg (by simp)]
        simpa using this
      | succ i =>
        have hL : L[i]? = some n := by simpa using h
        have hm := g.1 n (List.mem_of_getElem? hL)
        have := ih i g.2 hL
        unfold del at this ⊢
        rw [List.filter_cons_of_pos (by simp; omega), this]
        simp
  exact key L i g.srt h

theorem good_set {L : List Nd} (g : GoodL L) (a : Rf) {c : K} (hc : rightC c = true) : GoodL (setN L a c) := by
  refine ⟨fun m hm => ?_, ?_⟩
  · obtain ⟨n, hn, rfl⟩ := List.mem_map.mp hm
    have q := g.all n hn
    split
    · refine ⟨q.id, q.lo, q.hi, fun j hj => ?_⟩
      show rightC (updK n.sl a.i.toNat c j) = true
      by_cases e : j = a.i.toNat
      · rw [e, updK_same]; exact hc
      · rw [updK_other _ _ e]; exact q.sl j hj
    · exact q
  · rw [setN, List.pairwise_map]
    refine g.srt.imp fun {x y} h => ?_
    have e : ∀ z : Nd, (if (z.id : Int) = a.n then (⟨z.id, z.rx, updK z.sl a.i.toNat c⟩ : Nd) else z).id = z.id := fun z => by split <;> rfl
    rw [e, e]; exact h

theorem putE_zero {L : List Nd} {a : Rf} {c : K} (h : putE L a c = 0) : getE L a = 0 ∧ rightC c = true := by
  unfold putE at h
  split at h
  · split at h
    · exact ⟨by assumption, by assumption⟩
    · cases h
  · exact absurd h (by assumption)

theorem good_put {L : List Nd} (g : GoodL L) (a : Rf) (c : K) : GoodL (putS L a c) := by
  unfold putS
  split
  · rename_i h
    exact good_set g a (putE_zero h).2
  · exact g

theorem fnd_set (L : List Nd) (a : Rf) (c : K) (k : Int) : fnd (setN L a c) k = (fnd L k).map fun n => if (n.id : Int) = a.n then ⟨n.id, n.rx, updK n.sl a.i.toNat c⟩ else n := by
  induction L with
  | nil => rfl
  | cons x L ih =>
    unfold setN at ih ⊢
    rw [List.map_cons, fnd, fnd]
    have e : (if (x.id : Int) = a.n then (⟨x.id, x.rx, updK x.sl a.i.toNat c⟩ : Nd) else x).id = x.id := by split <;> rfl
    rw [e]
    split
    · rfl
    · exact ih

theorem right_get {L : List Nd} (g : GoodL L) (a : Rf) : rightC (getC L a) = true := by
  unfold getC
  split
  · exact right_K0
  · rename_i n h
    split
    · rename_i h'
      exact (g.nd h).sl _ (by
        have : ((2 ^ n.rx : Nat) : Int) = (2 : Int) ^ n.rx := by push_cast; rfl
        omega)
    · exact right_K0

theorem getE_zero {L : List Nd} {a : Rf} (h : getE L a = 0) : ∃ n, fnd L a.n = some n ∧ 0 ≤ a.i ∧ a.i < 2 ^ n.rx := by
  unfold getE at h
  split at h
  · cases h
  · rename_i n hn
    split at h
    · exact ⟨n, hn, by assumption⟩
    · cases h

end Go.Proofs.Ytibdkadojoeopaa
