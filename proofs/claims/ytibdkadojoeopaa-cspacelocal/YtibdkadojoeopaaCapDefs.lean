/-
  Capabilities as plain numbers: which are right, their words, the caps of words, and what they become. No program, no statement.
-/
import Derived.Test.YtibdkadojoeopaaBase
import Derived.Laws.BitsAllLaws
namespace Go.Proofs.Ytibdkadojoeopaa
open Go.RowKit

/-- A cap: kind, object, rights, badge, radix, guard, the guard's bits, device. -/
structure K where
  k : Int
  o : Int
  r : Int
  b : Int
  x : Int
  g : Int
  n : Int
  d : Bool

def K0 : K := ⟨0, 0, 0, 0, 0, 0, 0, false⟩

theorem K.ext' {c e : K} (h1 : c.k = e.k) (h2 : c.o = e.o) (h3 : c.r = e.r) (h4 : c.b = e.b) (h5 : c.x = e.x) (h6 : c.g = e.g) (h7 : c.n = e.n) (h8 : c.d = e.d) : c = e := by
  cases c; cases e; simp_all

/-- Two caps, compared field by field. -/
def eqK (c e : K) : Bool := c.k == e.k && (c.o == e.o && (c.r == e.r && (c.b == e.b && (c.x == e.x && (c.g == e.g && (c.n == e.n && c.d == e.d))))))

theorem eqK_iff (c e : K) : eqK c e = true ↔ c = e := by
  constructor
  · intro h
    simp only [eqK, Bool.and_eq_true, beq_iff_eq] at h
    exact K.ext' h.1 h.2.1 h.2.2.1 h.2.2.2.1 h.2.2.2.2.1 h.2.2.2.2.2.1 h.2.2.2.2.2.2.1 h.2.2.2.2.2.2.2
  · rintro rfl; simp [eqK]

theorem eqK_self (c : K) : eqK c c = true := (eqK_iff c c).2 rfl

def gOk (g n : Int) : Bool := decide (0 ≤ n) && (decide (n ≤ 16) && (decide (0 ≤ g) && decide (g < 2 ^ n.toNat)))
def objs (k : Int) : Int := if k = 0 then 1 else if k = 9 then 16 else if k = 10 then 32 else if 1 ≤ k ∧ k ≤ 11 then 1024 else 0
def may (k : Int) : Int := if k = 4 then 11 else if k = 5 then 3 else if k = 6 then 7 else 0
def bOk (b : Int) : Bool := decide (0 ≤ b) && decide (b ≤ 1048575)

/-- Which caps are right. -/
def rightC (c : K) : Bool :=
  (decide (0 ≤ c.o) && decide (c.o < objs c.k)) && ((bits .and .i64 c.r (may c.k) == c.r) && ((if c.k = 4 ∨ c.k = 5 then bOk c.b else c.b == 0) && ((c.k == 1 || (c.k == 6 || !c.d)) && (if c.k = 2 then (decide (1 ≤ c.x) && decide (c.x ≤ 4)) && gOk c.g c.n else c.x == 0 && (c.g == 0 && c.n == 0)))))

/-- A cap's word. -/
def wordC (c : K) : Int := c.k + c.o * 16 + c.r * 16384 + c.b * 262144 + c.x * 274877906944 + c.n * 2199023255552 + c.g * 70368744177664 + (if c.d then 4611686018427387904 else 0)
def encW (c : K) : Int := if rightC c then wordC c else 0
def encE (c : K) : Int := if rightC c then 0 else 141
/-- A word's parts. -/
def partsC (x : Int) : K := ⟨x % 16, x / 16 % 1024, x / 16384 % 16, x / 262144 % 1048576, x / 274877906944 % 8, x / 70368744177664 % 65536, x / 2199023255552 % 32, x / 4611686018427387904 % 2 == 1⟩
def decOk (x : Int) : Bool := rightC (partsC x) && (wordC (partsC x) == x)
def decC (x : Int) : K := if decOk x then partsC x else K0
def decE (x : Int) : Int := if decOk x then 0 else 141
/-- What a cap becomes. -/
def maskC (c : K) (q : Int) : K := if c.k = 4 ∨ c.k = 5 ∨ c.k = 6 then ⟨c.k, c.o, bits .and .i64 c.r q, c.b, c.x, c.g, c.n, c.d⟩ else c
def refE (k : Int) : Int := if k = 0 then 131 else if k = 1 ∨ k = 7 ∨ k = 9 ∨ k = 11 then 110 else 0
def derC (c : K) : K := if refE c.k = 0 then c else K0
def badE (c : K) (b : Int) : Int := if b = 0 then 0 else if c.b ≠ 0 then 110 else if bOk b then 0 else 1
def badC (c : K) (b : Int) : K := if badE c b = 0 then (if b = 0 then c else ⟨c.k, c.o, c.r, b, c.x, c.g, c.n, c.d⟩) else K0
def guaE (g n : Int) : Int := if gOk g n then 0 else 1
def guaC (c : K) (g n : Int) : K := if gOk g n then ⟨c.k, c.o, c.r, c.b, c.x, g, n, c.d⟩ else K0
def mintE (c : K) (b g n : Int) : Int := if refE c.k = 0 then (if c.k = 4 ∨ c.k = 5 then badE c b else if c.k = 2 then guaE g n else 0) else refE c.k
def mintC (c : K) (q b g n : Int) : K := if refE c.k = 0 then (if c.k = 4 ∨ c.k = 5 then badC (maskC c q) b else if c.k = 2 then guaC (maskC c q) g n else maskC c q) else K0
def sameC (c e : K) : Bool := c.k != 0 && (c.k == e.k && c.o == e.o)

/- Numbers of 64 bits, their bits. -/

def I64 (x : Int) : Prop := -9223372036854775808 ≤ x ∧ x ≤ 9223372036854775807

theorem and_toInt (x y : Int) : bits .and .i64 x y = (BitVec.ofInt 64 x &&& BitVec.ofInt 64 y).toInt := by
  show IntKind.i64.wrap ((BitVec.ofInt 64 x &&& BitVec.ofInt 64 y).toNat : Int) = _
  rw [IntKind.wrap_i64, BitVec.toInt_eq_toNat_bmod]
  rw [Int.bmod_def]
  have := (BitVec.ofInt 64 x &&& BitVec.ofInt 64 y).isLt
  split <;> omega

theorem andNot_toInt (x y : Int) : bits .andNot .i64 x y = (BitVec.ofInt 64 x &&& ~~~BitVec.ofInt 64 y).toInt := by
  show IntKind.i64.wrap ((BitVec.ofInt 64 x &&& ~~~BitVec.ofInt 64 y).toNat : Int) = _
  rw [IntKind.wrap_i64, BitVec.toInt_eq_toNat_bmod]
  rw [Int.bmod_def]
  have := (BitVec.ofInt 64 x &&& ~~~BitVec.ofInt 64 y).isLt
  split <;> omega

theorem i64_toInt {x : Int} (h : I64 x) : (BitVec.ofInt 64 x).toInt = x := by
  obtain ⟨h1, h2⟩ := h
  rw [BitVec.toInt_ofInt, Int.bmod_def]
  split <;> omega

theorem toInt_i64 (v : BitVec 64) : I64 v.toInt := by
  constructor
  · have := v.le_toInt; omega
  · have := v.toInt_lt; omega

theorem ofInt_and (x y : Int) : BitVec.ofInt 64 (bits .and .i64 x y) = BitVec.ofInt 64 x &&& BitVec.ofInt 64 y := by
  rw [and_toInt, BitVec.ofInt_toInt]

theorem and_i64 (x y : Int) : I64 (bits .and .i64 x y) := by rw [and_toInt]; exact toInt_i64 _

theorem and_assoc64 (x y z : Int) : bits .and .i64 (bits .and .i64 x y) z = bits .and .i64 x (bits .and .i64 y z) := by
  rw [and_toInt (bits .and .i64 x y) z, ofInt_and x y, and_toInt x (bits .and .i64 y z), ofInt_and y z, BitVec.and_assoc]

/-- No right more: what is left out of an intersection is nothing of the whole. -/
theorem and_less (x y : Int) : bits .andNot .i64 (bits .and .i64 x y) x = 0 := by
  rw [andNot_toInt, ofInt_and]
  have : BitVec.ofInt 64 x &&& BitVec.ofInt 64 y &&& ~~~BitVec.ofInt 64 x = 0#64 := by
    ext i hi; simp; intro a _; exact a
  rw [this]; rfl

theorem self_less (x : Int) : bits .andNot .i64 x x = 0 := by
  rw [andNot_toInt]
  have : BitVec.ofInt 64 x &&& ~~~BitVec.ofInt 64 x = 0#64 := by ext i hi; simp
  rw [this]; rfl

theorem subset_iff {x : Int} (h : I64 x) (m : Int) : (bits .andNot .i64 x m == 0) = (bits .and .i64 x m == x) := by
  rw [andNot_toInt, and_toInt]
  have hx := i64_toInt h
  generalize BitVec.ofInt 64 x = X at *
  generalize BitVec.ofInt 64 m = M at *
  subst hx
  rw [Bool.eq_iff_iff]
  simp only [beq_iff_eq]
  constructor
  · intro e
    have e' : X &&& ~~~M = 0#64 := by apply BitVec.eq_of_toInt_eq; rw [e]; rfl
    congr 1
    ext i hi
    have := congrArg (fun v : BitVec 64 => v[i]) e'
    simp at this ⊢
    intro a; exact this a
  · intro e
    have e' : X &&& M = X := BitVec.eq_of_toInt_eq e
    have : X &&& ~~~M = 0#64 := by
      rw [← e']; ext i hi; simp
    rw [this]; rfl

theorem and_zero64 (x : Int) : bits .and .i64 x 0 = 0 := by
  rw [and_toInt]; simp

/-- Of a number below 16 what is cut out lies from 0 to 15. -/
theorem and_range (x : Int) (m : Nat) (hm : m ≤ 15) : 0 ≤ bits .and .i64 x (m : Int) ∧ bits .and .i64 x (m : Int) ≤ 15 := by
  have hM : (BitVec.ofInt 64 (m : Int)).toNat = m := by
    rw [BitVec.ofInt_natCast, BitVec.toNat_ofNat]; omega
  have h1 : (BitVec.ofInt 64 x &&& BitVec.ofInt 64 (m : Int)).toNat ≤ m := by
    rw [BitVec.toNat_and, hM]; exact Nat.and_le_right
  show 0 ≤ IntKind.i64.wrap ((BitVec.ofInt 64 x &&& BitVec.ofInt 64 (m : Int)).toNat : Int) ∧ IntKind.i64.wrap ((BitVec.ofInt 64 x &&& BitVec.ofInt 64 (m : Int)).toNat : Int) ≤ 15
  rw [IntKind.wrap_i64]
  omega

theorem may_range (k : Int) : ∃ m : Nat, may k = (m : Int) ∧ m ≤ 15 := by
  unfold may
  split
  · exact ⟨11, rfl, by omega⟩
  split
  · exact ⟨3, rfl, by omega⟩
  split
  · exact ⟨7, rfl, by omega⟩
  · exact ⟨0, rfl, by omega⟩

end Go.Proofs.Ytibdkadojoeopaa
