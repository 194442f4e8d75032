/-
  What package iommu remembers and records, as plain data, and what each call tells of it, as plain functions. No program, no statement.
-/
import Derived.Test.YthmombgogmgobaaWalkBits
import Derived.Test.YthmombgogmgobaaStore
namespace Go.Proofs.Ythmombgogmgobaa
open Go.RowKit

/-- A record: stream, page, kind, whether to write. -/
structure Rc where (s p k : Int) (wr : Bool)
/-- A line: stream, page, frame, rights. -/
structure Li where (s p f r : Int)
/-- A controller: each stream's table (-1: none), the buffer's entries, the records, how many were lost. -/
structure Io where
  ro : Nat → Int
  ln : Nat → Option Li
  re : List Rc
  lo : Int

def ioset {α : Type} (f : Nat → α) (k : Nat) (o : α) : Nat → α := fun j => if j = k then o else f j
theorem ioset_same {α : Type} (f : Nat → α) (k : Nat) (o : α) : ioset f k o k = o := if_pos rfl
theorem ioset_other {α : Type} (f : Nat → α) {k j : Nat} (o : α) (h : j ≠ k) : ioset f k o j = f j := if_neg h

def io0 : Io := ⟨fun _ => -1, fun _ => none, [], 0⟩

def isS (s : Int) : Bool := decide (0 ≤ s) && decide (s ≤ 15)
theorem isS_iff {s : Int} : isS s = true ↔ 0 ≤ s ∧ s ≤ 15 := by simp [isS]
def isF (n : Int) : Bool := decide (0 ≤ n) && decide (n ≤ 1023)
theorem isF_iff {s : Int} : isF s = true ↔ 0 ≤ s ∧ s ≤ 1023 := by simp [isF]
def isE (n : Int) : Bool := decide (0 ≤ n) && decide (n ≤ 7)
theorem isE_iff {s : Int} : isE s = true ↔ 0 ≤ s ∧ s ≤ 7 := by simp [isE]
def isAd (n : Int) : Bool := decide (0 ≤ n) && decide (n ≤ 65535)
theorem isAd_iff {s : Int} : isAd s = true ↔ 0 ≤ s ∧ s ≤ 65535 := by simp [isAd]

/-! ### what is forgotten -/
def goS (s : Int) (l : Li) : Bool := l.s == s
def goP (s p : Int) (l : Li) : Bool := l.s == s && l.p == p
def ohit (g : Li → Bool) : Option Li → Bool
  | some l => g l
  | none => false
def iowipe (g : Li → Bool) (f : Nat → Option Li) : Nat → Option Li := fun k => if ohit g (f k) = true then none else f k
def iocnt (g : Li → Bool) (f : Nat → Option Li) : Nat → Nat
  | 0 => 0
  | k + 1 => iocnt g f k + if ohit g (f k) = true then 1 else 0
theorem iocnt_le (g : Li → Bool) (f : Nat → Option Li) (n : Nat) : iocnt g f n ≤ n := by
  induction n with
  | zero => simp [iocnt]
  | succ k ih => simp only [iocnt]; split <;> omega

/-- Entries that lie in the first eight alone, each at its page's place. -/
def LnOk (f : Nat → Option Li) : Prop := ∀ k, 8 ≤ k → f k = none
theorem LnOk.set {f : Nat → Option Li} (h : LnOk f) {k : Nat} (hk : k < 8) (o : Option Li) : LnOk (ioset f k o) := fun j hj => by rw [ioset_other _ _ (by omega)]; exact h j hj
theorem LnOk.wipe {f : Nat → Option Li} (h : LnOk f) (g : Li → Bool) : LnOk (iowipe g f) := fun j hj => by unfold iowipe; rw [h j hj]; rfl

def flushS (S : Io) (g : Li → Bool) : Io := { S with ln := iowipe g S.ln }
def attE (s n : Int) : Int := bif isS s then (bif isF n then 0 else 1) else 100
def attS (S : Io) (s n : Int) : Io := bif isS s && isF n then { S with ro := ioset S.ro s.toNat n, ln := iowipe (goS s) S.ln } else S
def detE (s : Int) : Int := bif isS s then 0 else 100
def detS (S : Io) (s : Int) : Io := bif isS s then { S with ro := ioset S.ro s.toNat (-1), ln := iowipe (goS s) S.ln } else S
def rootO (S : Io) (s : Int) : Int := bif isS s then S.ro s.toNat else -1
def evE (n : Int) : Int := bif isE n then 0 else 1
def evS (S : Io) (n : Int) : Io := bif isE n then { S with ln := ioset S.ln n.toNat none } else S

/-! ### an access -/
def wantI (wr : Bool) : Int := bif wr then 2 else 1
def okL (s p wt : Int) : Option Li → Bool
  | some l => l.s == s && (l.p == p && bits .and .i64 l.r wt != 0)
  | none => false
def frL : Option Li → Int
  | some l => l.f
  | none => 0
/-- By the stream's table: frame, kind of fault, and what is remembered then. -/
def walkK (bs : List UInt8) (nf : Nat) (root p wt : Int) : Int :=
  if root = -1 then 1 else if (single bs nf root p).ft.k ≠ 0 then (single bs nf root p).ft.k else if bits .and .i64 (single bs nf root p).ri wt = 0 then 2 else 0
def walkFr (bs : List UInt8) (nf : Nat) (root p wt : Int) : Int := if walkK bs nf root p wt = 0 then (single bs nf root p).fr else 0
def fndK (bs : List UInt8) (nf : Nat) (S : Io) (s p wt : Int) : Int := bif okL s p wt (S.ln (p % 8).toNat) then 0 else walkK bs nf (S.ro s.toNat) p wt
def fndF (bs : List UInt8) (nf : Nat) (S : Io) (s p wt : Int) : Int := bif okL s p wt (S.ln (p % 8).toNat) then frL (S.ln (p % 8).toNat) else walkFr bs nf (S.ro s.toNat) p wt
def fndS (bs : List UInt8) (nf : Nat) (S : Io) (s p wt : Int) : Io :=
  bif okL s p wt (S.ln (p % 8).toNat) then S else if walkK bs nf (S.ro s.toNat) p wt = 0 then { S with ln := ioset S.ln (p % 8).toNat (some ⟨s, p, (single bs nf (S.ro s.toNat) p).fr, (single bs nf (S.ro s.toNat) p).ri⟩) } else S
/-- Behind the memory's own size. -/
def reaK (bs : List UInt8) (nf : Nat) (S : Io) (s p wt : Int) : Int := if fndK bs nf S s p wt = 0 ∧ (nf : Int) ≤ fndF bs nf S s p wt then 3 else fndK bs nf S s p wt
def reaF (bs : List UInt8) (nf : Nat) (S : Io) (s p wt : Int) : Int := if fndK bs nf S s p wt = 0 ∧ (nf : Int) ≤ fndF bs nf S s p wt then 0 else fndF bs nf S s p wt
def recS (S : Io) (x : Rc) : Io := if S.re.length = 8 then { S with lo := wrap64 (S.lo + 1) } else { S with re := S.re ++ [x] }

def dmaOk (s a : Int) : Bool := isS s && isAd a
def dmaK (bs : List UInt8) (nf : Nat) (S : Io) (s a : Int) (wr : Bool) : Int := reaK bs nf S s (a / 64) (wantI wr)
def dmaAt (bs : List UInt8) (nf : Nat) (S : Io) (s a : Int) (wr : Bool) : Int := 64 * reaF bs nf S s (a / 64) (wantI wr) + a % 64
def dmaE (bs : List UInt8) (nf : Nat) (S : Io) (s a : Int) (wr : Bool) : Int :=
  bif isS s then (bif isAd a then (if dmaK bs nf S s a wr = 0 then 0 else 101) else 1) else 100
def byteAt (bs : List UInt8) (a : Int) : Nat := (bs.getD a.toNat 0).toNat
def dmaV (bs : List UInt8) (nf : Nat) (S : Io) (s a : Int) (wr : Bool) (b : Nat) : Nat :=
  bif dmaOk s a then (if dmaK bs nf S s a wr = 0 then (bif wr then b else byteAt bs (dmaAt bs nf S s a wr)) else 0) else 0
def dmaB (bs : List UInt8) (nf : Nat) (S : Io) (s a : Int) (wr : Bool) (b : Nat) : List UInt8 :=
  bif dmaOk s a then (if dmaK bs nf S s a wr = 0 then (bif wr then storeB bs (dmaAt bs nf S s a wr) 1 nf b else bs) else bs) else bs
def dmaS (bs : List UInt8) (nf : Nat) (S : Io) (s a : Int) (wr : Bool) : Io :=
  bif dmaOk s a then (if dmaK bs nf S s a wr = 0 then fndS bs nf S s (a / 64) (wantI wr) else recS (fndS bs nf S s (a / 64) (wantI wr)) ⟨s, a / 64, dmaK bs nf S s a wr, wr⟩) else S

def tkR (S : Io) : Rc := match S.re with | [] => ⟨0, 0, 0, false⟩ | x :: _ => x
def tkB (S : Io) : Bool := match S.re with | [] => false | _ :: _ => true
def tkS (S : Io) : Io := { S with re := S.re.tail }

/-! ### what always holds -/
structure IoOk (S : Io) : Prop where
  ln : LnOk S.ln
  ro : ∀ k, S.ro k = -1 ∨ (0 ≤ S.ro k ∧ S.ro k ≤ 1023)
  fr : ∀ k l, S.ln k = some l → 0 ≤ l.f ∧ l.f ≤ 1023
  re : S.re.length ≤ 8

theorem ioOk0 : IoOk io0 := ⟨fun _ _ => rfl, fun _ => Or.inl rfl, fun _ _ h => (by cases h), by show 0 ≤ 8; omega⟩
theorem IoOk.wipe {S : Io} (h : IoOk S) (g : Li → Bool) : IoOk (flushS S g) := ⟨h.ln.wipe g, h.ro, fun k l e => by
  unfold flushS iowipe at e
  simp only at e
  split at e
  · cases e
  · exact h.fr k l e, h.re⟩
theorem IoOk.root {S : Io} (h : IoOk S) {n : Int} (hn : n = -1 ∨ (0 ≤ n ∧ n ≤ 1023)) (k : Nat) : IoOk { S with ro := ioset S.ro k n } := ⟨h.ln, fun j => by
  by_cases e : j = k
  · subst e; simp only [ioset_same]; exact hn
  · simp only [ioset_other _ _ e]; exact h.ro j, h.fr, h.re⟩
theorem IoOk.line {S : Io} (h : IoOk S) {k : Nat} (hk : k < 8) {o : Option Li} (ho : ∀ l, o = some l → 0 ≤ l.f ∧ l.f ≤ 1023) : IoOk { S with ln := ioset S.ln k o } := ⟨h.ln.set hk o, h.ro, fun j l e => by
  by_cases e' : j = k
  · subst e'; simp only [ioset_same] at e; exact ho l e
  · simp only [ioset_other _ _ e'] at e; exact h.fr j l e, h.re⟩
theorem IoOk.att {S : Io} (h : IoOk S) (s n : Int) : IoOk (attS S s n) := by
  unfold attS
  cases h1 : isS s <;> cases h2 : isF n <;> simp only [Bool.and_true, Bool.and_false, cond_true, cond_false]
  · exact h
  · exact h
  · exact h
  · exact (h.root (Or.inr (isF_iff.mp h2)) s.toNat).wipe (goS s)
theorem IoOk.det {S : Io} (h : IoOk S) (s : Int) : IoOk (detS S s) := by
  unfold detS
  cases h1 : isS s <;> simp only [cond_true, cond_false]
  · exact h
  · exact (h.root (Or.inl rfl) s.toNat).wipe (goS s)
theorem IoOk.ev {S : Io} (h : IoOk S) (n : Int) : IoOk (evS S n) := by
  unfold evS
  cases h1 : isE n <;> simp only [cond_true, cond_false]
  · exact h
  · have := isE_iff.mp h1
    exact h.line (by omega) (fun l e => by cases e)
theorem IoOk.fnd {S : Io} (h : IoOk S) (bs : List UInt8) (nf : Nat) (s p wt : Int) : IoOk (fndS bs nf S s p wt) := by
  unfold fndS
  cases okL s p wt (S.ln (p % 8).toNat) <;> simp only [cond_true, cond_false]
  · split
    · exact h.line (by omega) (fun l e => by cases e; exact (single_range bs nf _ _).1)
    · exact h
  · exact h
theorem IoOk.rcd {S : Io} (h : IoOk S) (x : Rc) : IoOk (recS S x) := by
  unfold recS
  split
  · exact ⟨h.ln, h.ro, h.fr, h.re⟩
  · exact ⟨h.ln, h.ro, h.fr, by have := h.re; simp; omega⟩
theorem IoOk.dma {S : Io} (h : IoOk S) (bs : List UInt8) (nf : Nat) (s a : Int) (wr : Bool) : IoOk (dmaS bs nf S s a wr) := by
  unfold dmaS
  cases dmaOk s a <;> simp only [cond_true, cond_false]
  · exact h
  · split
    · exact h.fnd _ _ _ _ _
    · exact (h.fnd _ _ _ _ _).rcd _
theorem IoOk.tk {S : Io} (h : IoOk S) : IoOk (tkS S) := ⟨h.ln, h.ro, h.fr, by have := h.re; simp [tkS]; omega⟩

theorem fndF_range {S : Io} (h : IoOk S) (bs : List UInt8) (nf : Nat) (s p wt : Int) : 0 ≤ fndF bs nf S s p wt ∧ fndF bs nf S s p wt ≤ 1023 := by
  unfold fndF
  cases hk : okL s p wt (S.ln (p % 8).toNat) <;> simp only [cond_true, cond_false]
  · unfold walkFr
    split
    · exact (single_range bs nf _ _).1
    · omega
  · cases hl : S.ln (p % 8).toNat with
    | none => rw [hl] at hk; cases hk
    | some l => exact h.fr _ l hl
theorem reaF_range {S : Io} (h : IoOk S) (bs : List UInt8) (nf : Nat) (s p wt : Int) : 0 ≤ reaF bs nf S s p wt ∧ reaF bs nf S s p wt ≤ 1023 ∧ (reaK bs nf S s p wt = 0 → reaF bs nf S s p wt < nf) := by
  have := fndF_range h bs nf s p wt
  unfold reaF reaK
  split
  · rename_i hc; exact ⟨by omega, by omega, fun e => absurd e (by decide)⟩
  · rename_i hc; exact ⟨this.1, this.2, fun e => by
      rcases Int.lt_or_le (fndF bs nf S s p wt) nf with hh | hh
      · exact hh
      · exact absurd ⟨e, hh⟩ hc⟩

end Go.Proofs.Ythmombgogmgobaa
