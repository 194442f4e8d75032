/-
  A scheduler as plain data: threads, queues, the current one, the table: what package sched's calls answer and leave. No program, no statement.
-/
import Derived.Test.YtipfgenbfnkpfaaBase
namespace Go.Proofs.Ytipfgenbfnkpfaa
open Go.RowKit

/-- A fact that the walk is not to see. -/
structure Hd (p : Prop) : Prop where
  out : p

def I64 (x : Int) : Prop := -9223372036854775808 ≤ x ∧ x ≤ 9223372036854775807

/-- A thread: its number, priority, domain, slice; is it awake? -/
structure Tk where
  i : Int
  p : Int
  d : Int
  s : Int
  a : Bool

def T0 : Tk := ⟨0, 0, 0, 0, false⟩
def eqT (a b : Tk) : Bool := a.i == b.i && a.p == b.p && a.d == b.d && a.s == b.s && a.a == b.a
theorem eqT_iff (a b : Tk) : eqT a b = true ↔ a = b := by
  obtain ⟨a1, a2, a3, a4, a5⟩ := a
  obtain ⟨b1, b2, b3, b4, b5⟩ := b
  simp [eqT, and_assoc]
theorem eqT_self (a : Tk) : eqT a a = true := (eqT_iff a a).2 rfl

structure okT (t : Tk) : Prop where
  i0 : 0 ≤ t.i
  i1 : t.i ≤ 1023
  p0 : 0 ≤ t.p
  p1 : t.p ≤ 63
  d0 : 0 ≤ t.d
  d1 : t.d ≤ 3
  s0 : 0 ≤ t.s
  s1 : t.s ≤ 4

/-- Which of the 256 queues. -/
def ky (d p : Int) : Nat := d.toNat * 64 + p.toNat
theorem okT.ky {t : Tk} (h : okT t) : Go.Proofs.Ytipfgenbfnkpfaa.ky t.d t.p < 256 := by
  have := h.p0; have := h.p1; have := h.d0; have := h.d1
  unfold Go.Proofs.Ytipfgenbfnkpfaa.ky
  omega

def fnd : List Tk → Int → Option Tk
  | [], _ => none
  | n :: L, k => if n.i = k then some n else fnd L k

structure GoodL (L : List Tk) : Prop where
  all : ∀ n ∈ L, okT n
  one : L.Pairwise (fun a b => a.i ≠ b.i)

theorem goodL_nil : GoodL [] := ⟨by simp, List.Pairwise.nil⟩

theorem fnd_mem {L : List Tk} {k : Int} {n : Tk} (h : fnd L k = some n) : n ∈ L ∧ n.i = k := by
  induction L with
  | nil => cases h
  | cons a L ih =>
    unfold fnd at h
    split at h
    · cases h; rename_i e; exact ⟨List.mem_cons_self, e⟩
    · exact ⟨List.mem_cons_of_mem _ (ih h).1, (ih h).2⟩

theorem fnd_none {L : List Tk} {k : Int} (h : fnd L k = none) : ∀ n ∈ L, n.i ≠ k := by
  induction L with
  | nil => simp
  | cons a L ih =>
    unfold fnd at h
    split at h
    · cases h
    · intro n hn
      rcases List.mem_cons.mp hn with rfl | hn
      · assumption
      · exact ih h n hn

theorem fnd_of_mem {L : List Tk} (g : L.Pairwise (fun a b => a.i ≠ b.i)) {n : Tk} (h : n ∈ L) : fnd L n.i = some n := by
  induction L with
  | nil => cases h
  | cons a L ih =>
    unfold fnd
    rw [List.pairwise_cons] at g
    rcases List.mem_cons.mp h with rfl | h'
    · rw [if_pos rfl]
    · rw [if_neg (g.1 n h')]; exact ih g.2 h'

theorem fnd_none_of {L : List Tk} {k : Int} (h : ∀ n ∈ L, n.i ≠ k) : fnd L k = none := by
  cases hf : fnd L k with
  | none => rfl
  | some n => exact absurd (fnd_mem hf).2 (h n (fnd_mem hf).1)

theorem fnd_append (L M : List Tk) (k : Int) : fnd (L ++ M) k = match fnd L k with | some t => some t | none => fnd M k := by
  induction L with
  | nil => rfl
  | cons a L ih =>
    simp only [List.cons_append, fnd]
    split
    · rfl
    · exact ih

/-- One thread turned. -/
def upd (L : List Tk) (k : Int) (f : Tk → Tk) : List Tk := L.map fun t => if t.i = k then f t else t
theorem upd_len (L : List Tk) (k : Int) (f : Tk → Tk) : (upd L k f).length = L.length := by simp [upd]
theorem fnd_upd {L : List Tk} {k : Int} {f : Tk → Tk} (hf : ∀ t, (f t).i = t.i) (j : Int) : fnd (upd L k f) j = (fnd L j).map fun t => if t.i = k then f t else t := by
  induction L with
  | nil => rfl
  | cons a L ih =>
    have e : (if a.i = k then f a else a).i = a.i := by split; exact hf a; rfl
    simp only [upd, List.map_cons, fnd] at ih ⊢
    rw [e]
    split
    · rfl
    · exact ih
theorem mem_upd {L : List Tk} {k : Int} {f : Tk → Tk} {x : Tk} (h : x ∈ upd L k f) : ∃ t ∈ L, x = if t.i = k then f t else t := by
  obtain ⟨t, ht, e⟩ := List.mem_map.mp h
  exact ⟨t, ht, e.symm⟩
theorem good_upd {L : List Tk} {k : Int} {f : Tk → Tk} (g : GoodL L) (hf : ∀ t, (f t).i = t.i) (ho : ∀ t ∈ L, t.i = k → okT (f t)) : GoodL (upd L k f) := by
  refine ⟨fun x hx => ?_, ?_⟩
  · obtain ⟨t, ht, rfl⟩ := mem_upd hx
    split
    · exact ho t ht (by assumption)
    · exact g.all t ht
  · unfold upd
    rw [List.pairwise_map]
    refine g.one.imp fun {a b} hab => ?_
    have e : ∀ a : Tk, (if a.i = k then f a else a).i = a.i := fun a => by split; exact hf a; rfl
    rw [e, e]
    exact hab

def del (L : List Tk) (k : Int) : List Tk := L.filter fun t => !(t.i == k)
theorem mem_del {L : List Tk} {k : Int} {t : Tk} : t ∈ del L k ↔ t ∈ L ∧ t.i ≠ k := by simp [del]
theorem good_del {L : List Tk} (g : GoodL L) (k : Int) : GoodL (del L k) := ⟨fun n hn => g.all n (mem_del.mp hn).1, g.one.sublist List.filter_sublist⟩
theorem fnd_del (L : List Tk) (k j : Int) : fnd (del L k) j = if j = k then none else fnd L j := by
  induction L with
  | nil => simp [del, fnd]
  | cons a L ih =>
    unfold del at ih ⊢
    rw [List.filter_cons]
    by_cases h : a.i = k
    · rw [if_neg (by simp [h]), ih]
      by_cases e : j = k
      · rw [if_pos e, if_pos e]
      · rw [if_neg e, if_neg e]
        show fnd L j = fnd (a :: L) j
        rw [fnd, if_neg (by omega)]
    · rw [if_pos (by simp [h])]
      simp only [fnd]
      by_cases e : a.i = j
      · rw [if_pos e, if_pos e, if_neg (by omega)]
      · rw [if_neg e, if_neg e]; exact ih
theorem len_del {L : List Tk} (g : GoodL L) {k : Int} {t : Tk} (h : fnd L k = some t) : L.length = (del L k).length + 1 := by
  induction L with
  | nil => cases h
  | cons a L ih =>
    have g1 := List.pairwise_cons.mp g.one
    unfold fnd at h
    unfold del
    rw [List.filter_cons]
    by_cases e : a.i = k
    · rw [if_neg (by simp [e])]
      have : L.filter (fun t => !(t.i == k)) = L := List.filter_eq_self.2 fun x hx => by
        have := g1.1 x hx
        simp only [Bool.not_eq_true', beq_eq_false_iff_ne, ne_eq]
        omega
      rw [this]; rfl
    · rw [if_neg e] at h
      rw [if_pos (by simp [e])]
      have := ih ⟨fun n hn => g.all n (List.mem_cons_of_mem _ hn), g1.2⟩ h
      unfold del at this
      simp only [List.length_cons]
      omega

/-- No more threads than numbers. -/
theorem len_ids : ∀ (N : Nat) (l : List Int), l.Nodup → (∀ x ∈ l, 0 ≤ x ∧ x < (N : Int)) → l.length ≤ N
  | 0, l, _, h => by
    cases l with
    | nil => simp
    | cons x l => have := h x List.mem_cons_self; omega
  | N + 1, l, hn, h => by
    have h1 := len_ids N (l.filter fun x => !(x == (N : Int))) (hn.filter _) (fun x hx => by
      have := List.mem_filter.mp hx
      have h2 := h x this.1
      have h3 : x ≠ (N : Int) := by simpa using this.2
      omega)
    have h2 : l.length ≤ (l.filter fun x => !(x == (N : Int))).length + 1 := by
      clear h h1
      induction l with
      | nil => simp
      | cons a l ih =>
        rw [List.nodup_cons] at hn
        rw [List.filter_cons]
        by_cases e : a = (N : Int)
        · rw [if_neg (by simp [e])]
          have : l.filter (fun x => !(x == (N : Int))) = l := List.filter_eq_self.2 fun x hx => by
            have : x ≠ (N : Int) := fun h' => hn.1 (by rw [e, ← h']; exact hx)
            simpa using this
          rw [this]; simp
        · rw [if_pos (by simp [e])]
          have := ih hn.2
          simp only [List.length_cons]
          omega
    omega
theorem len_le {L : List Tk} (g : GoodL L) : L.length ≤ 1024 := by
  have := len_ids 1024 (L.map (·.i)) (by rw [List.nodup_iff_pairwise_ne, List.pairwise_map]; exact g.one) (fun x hx => by
    obtain ⟨t, ht, rfl⟩ := List.mem_map.mp hx
    have := g.all t ht
    have := this.i0; have := (g.all t ht).i1
    omega)
  simpa using this

/-- A turn of the table: of a domain, for so many ticks. -/
structure Tn where
  d : Int
  n : Int
structure okN (t : Tn) : Prop where
  d0 : 0 ≤ t.d
  d1 : t.d ≤ 3
  n0 : 1 ≤ t.n
  n1 : t.n ≤ 1000
def okNb (t : Tn) : Bool := decide (0 ≤ t.d) && decide (t.d < 4) && decide (1 ≤ t.n) && decide (t.n ≤ 1000)
theorem okNb_iff {t : Tn} : okNb t = true ↔ okN t := by
  constructor
  · intro h
    simp only [okNb, Bool.and_eq_true, decide_eq_true_eq] at h
    exact ⟨h.1.1.1, by omega, h.1.2, h.2⟩
  · rintro ⟨a, b, c, d⟩
    simp only [okNb, Bool.and_eq_true, decide_eq_true_eq]
    exact ⟨⟨⟨a, by omega⟩, c⟩, d⟩

/-- A scheduler: threads, 256 queues, the current one (-1: none), the table, the present turn, its ticks. -/
structure Sd where
  L : List Tk
  q : Nat → List Int
  c : Int
  tb : List Tn
  tn : Nat
  lf : Int

def pt (S : Sd) : Tn := (S.tb[S.tn]?).getD ⟨0, 1000⟩
/-- The present domain. -/
def pe (S : Sd) : Int := (pt S).d

structure GoodT (S : Sd) : Prop where
  ok : ∀ t ∈ S.tb, okN t
  len : S.tb.length ≤ 8
  tn : S.tn < S.tb.length
  l0 : 1 ≤ S.lf
  l1 : S.lf ≤ 1000

theorem GoodT.at {S : Sd} (g : GoodT S) : S.tb[S.tn]? = some (pt S) := by
  unfold pt
  rw [List.getElem?_eq_getElem g.tn]; rfl
theorem GoodT.pt {S : Sd} (g : GoodT S) : okN (pt S) := g.ok _ (List.mem_of_getElem? g.at)

/-- One queue turned. -/
def uq (q : Nat → List Int) (k : Nat) (f : List Int → List Int) : Nat → List Int := fun j => if j = k then f (q j) else q j
theorem uq_same (q : Nat → List Int) (k : Nat) (f : List Int → List Int) : uq q k f k = f (q k) := by unfold uq; rw [if_pos rfl]
theorem uq_other (q : Nat → List Int) {k j : Nat} (f : List Int → List Int) (h : j ≠ k) : uq q k f j = q j := by unfold uq; rw [if_neg h]

def gEnd (i : Int) (l : List Int) : List Int := l ++ [i]
def gFront (i : Int) (l : List Int) : List Int := i :: l
def gOut (i : Int) (l : List Int) : List Int := l.filter fun x => !(x == i)

/-- A thread's queue turned. -/
def app (S : Sd) (t : Tk) (g : Int → List Int → List Int) : Sd := { S with q := uq S.q (ky t.d t.p) (g t.i) }
def curT (S : Sd) : Tk := (fnd S.L S.c).getD T0
/-- The current one put back. -/
def back (S : Sd) (g : Int → List Int → List Int) : Sd := { app S (curT S) g with c := -1 }
def rdy (S : Sd) (t : Tk) : Bool := t.a && !(t.i == S.c)

def setA (a : Bool) (t : Tk) : Tk := { t with a := a }
def setSl (s : Int) (t : Tk) : Tk := { t with s := s }
def setPD (p d : Int) (t : Tk) : Tk := { t with p := p, d := d }

def addE (S : Sd) (i p d : Int) : Int :=
  if 0 ≤ i ∧ i < 1024 ∧ 0 ≤ p ∧ p < 64 ∧ 0 ≤ d ∧ d < 4 then (match fnd S.L i with | some _ => 130 | none => 0) else 1
def addS (S : Sd) (i p d : Int) : Sd := if addE S i p d = 0 then { S with L := S.L ++ [⟨i, p, d, 4, false⟩] } else S
def thrE (S : Sd) (i : Int) : Int := match fnd S.L i with | some _ => 0 | none => 150
def wakS (S : Sd) (i : Int) : Sd := match fnd S.L i with
  | none => S
  | some t => if t.a then S else app { S with L := upd S.L i (setA true) } t gEnd
def stoS (S : Sd) (i : Int) : Sd := match fnd S.L i with
  | none => S
  | some t => { (if rdy S t then app S t gOut else S) with c := if S.c = i then -1 else S.c, L := upd S.L i (setA false) }
def droS (S : Sd) (i : Int) : Sd := { stoS S i with L := del (stoS S i).L i }
def plaS (S : Sd) (t : Tk) (p d : Int) : Sd :=
  if rdy S t then app { app S t gOut with L := upd S.L t.i (setPD p d) } (setPD p d t) gEnd else { S with L := upd S.L t.i (setPD p d) }
def priE (S : Sd) (i p : Int) : Int := match fnd S.L i with | none => 150 | some _ => if 0 ≤ p ∧ p < 64 then 0 else 1
def priS (S : Sd) (i p : Int) : Sd := match fnd S.L i with | none => S | some t => if 0 ≤ p ∧ p < 64 then plaS S t p t.d else S
def domE (S : Sd) (i d : Int) : Int := match fnd S.L i with | none => 150 | some _ => if 0 ≤ d ∧ d < 4 then 0 else 1
def domS (S : Sd) (i d : Int) : Sd := match fnd S.L i with | none => S | some t => if 0 ≤ d ∧ d < 4 then plaS S t t.p d else S
def yieE (S : Sd) : Int := if S.c = -1 then 194 else 0
def yieS (S : Sd) : Sd := if S.c = -1 then S else back { S with L := upd S.L S.c (setSl 4) } gEnd
def speS (S : Sd) : Sd := if S.c = -1 then S else
  let S1 : Sd := { S with L := upd S.L S.c (setSl ((curT S).s - 1)) }
  if (curT S).s = 1 then yieS S1 else S1
def nexN (S : Sd) : Nat := (S.tn + 1) % S.tb.length
def turS (S : Sd) : Sd := { S with tn := nexN S, lf := ((S.tb[nexN S]?).getD ⟨0, 1000⟩).n }
def nexS (S : Sd) : Sd := if S.c ≠ -1 ∧ pe (turS S) ≠ pe S then back (turS S) gFront else turS S
def ticS (S : Sd) : Sd :=
  let S1 := speS S
  if S1.lf = 1 then nexS { S1 with lf := 0 } else { S1 with lf := S1.lf - 1 }
/-- Who of the present domain's would run first: from so many priorities down. -/
def urg (S : Sd) (d : Int) : Nat → Option Int
  | 0 => none
  | k + 1 => match S.q (d.toNat * 64 + k) with | i :: _ => some i | [] => urg S d k
def sett (S : Sd) : Sd := match urg S (pe S) 64 with
  | none => S
  | some h =>
    let t := (fnd S.L h).getD T0
    if S.c = -1 then { app S t gOut with c := h }
    else if t.p ≤ (curT S).p then S else { app (back S gFront) t gOut with c := h }
def setS (S : Sd) : Sd := if S.c ≠ -1 ∧ (curT S).d ≠ pe S then sett (back S gEnd) else sett S
def thrC (S : Sd) (i : Int) : Tk := (fnd S.L i).getD T0
def reaL (S : Sd) (d p : Int) : List Int := if 0 ≤ d ∧ d < 4 ∧ 0 ≤ p ∧ p < 64 then S.q (ky d p) else []

end Go.Proofs.Ytipfgenbfnkpfaa
