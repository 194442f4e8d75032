/-
  Plain facts on lists of bytes: a number as its bytes, bytes laid over bytes, and how a row of the model's memory shows them. No program, no statement.
-/
import Derived.Test.YtecipogfdhpjfaaGreatDoorBase
import Derived.Laws.BitsAllLaws
import Derived.Laws.MakeOwn
namespace Go.Proofs.YtecipogfdhpjfaaGreatDoor
open Go.RowKit

def U8 (x : UInt8) : Value := .int .u8 ((x.toNat : Nat) : Int)
def byteVals (bs : List UInt8) : Array Value := (bs.map U8).toArray

/-- The number that bytes are, the lowest first. -/
def numOf : List UInt8 → Nat
  | [] => 0
  | x :: r => x.toNat + 256 * numOf r

/-- The lowest bytes of a number, the lowest first. -/
def bytesOf : Nat → Nat → List UInt8
  | 0, _ => []
  | s + 1, v => UInt8.ofNat v :: bytesOf s (v / 256)

/-- Bytes laid over bytes. -/
def putAt : List UInt8 → Nat → List UInt8 → List UInt8
  | bs, _, [] => bs
  | bs, a, x :: r => putAt (bs.set a x) (a + 1) r

theorem size_byteVals (bs : List UInt8) : (byteVals bs).size = bs.length := by simp [byteVals]

theorem byteVals_get (bs : List UInt8) (i : Nat) (h : i < bs.length) : (byteVals bs)[i]? = some (U8 bs[i]) := by
  simp [byteVals, h]

theorem byteVals_set (bs : List UInt8) (a : Nat) (x : UInt8) : (byteVals bs).setIfInBounds a (U8 x) = byteVals (bs.set a x) := by
  simp [byteVals, List.map_set]

theorem length_bytesOf (s v : Nat) : (bytesOf s v).length = s := by
  induction s generalizing v with
  | zero => rfl
  | succ n ih => simp [bytesOf, ih]

theorem length_putAt (l : List UInt8) : ∀ (bs : List UInt8) (a : Nat), (putAt bs a l).length = bs.length := by
  induction l with
  | nil => intro bs a; rfl
  | cons x r ih => intro bs a; simp [putAt, ih]

theorem putAt_get? (l : List UInt8) : ∀ (bs : List UInt8) (a : Nat) (_ : a + l.length ≤ bs.length) (j : Nat), (putAt bs a l)[j]? = if a ≤ j ∧ j < a + l.length then l[j - a]? else bs[j]? := by
  induction l with
  | nil => intro bs a h j; simp [putAt]; omega
  | cons x r ih =>
    intro bs a h j
    simp only [List.length_cons] at h
    rw [putAt, ih (bs.set a x) (a + 1) (by simp; omega) j]
    simp only [List.length_cons]
    by_cases h1 : j = a
    · subst h1
      rw [if_neg (by omega), if_pos (by omega)]
      simp [show j < bs.length by omega]
    · by_cases h2 : a + 1 ≤ j ∧ j < a + 1 + r.length
      · rw [if_pos h2, if_pos (by omega)]
        obtain ⟨k, hk⟩ : ∃ k, j - a = k + 1 := ⟨j - a - 1, by omega⟩
        rw [hk, List.getElem?_cons_succ]
        congr 1
        omega
      · rw [if_neg h2, if_neg (by omega)]
        rw [List.getElem?_set_ne (by omega)]

theorem take_drop_putAt (bs : List UInt8) (a : Nat) (l : List UInt8) (h : a + l.length ≤ bs.length) : ((putAt bs a l).drop a).take l.length = l := by
  apply List.ext_getElem?
  intro j
  rw [List.getElem?_take]
  by_cases hj : j < l.length
  · rw [if_pos hj, List.getElem?_drop, putAt_get? l bs a h, if_pos (by omega)]
    congr 1
    omega
  · rw [if_neg hj, List.getElem?_eq_none (by omega)]

theorem numOf_bytesOf (s : Nat) : ∀ v, numOf (bytesOf s v) = v % 256 ^ s := by
  induction s with
  | zero => intro v; simp [bytesOf, numOf, Nat.mod_one]
  | succ n ih =>
    intro v
    simp only [bytesOf, numOf, ih, UInt8.toNat_ofNat']
    rw [show 256 ^ (n + 1) = 256 * 256 ^ n by rw [Nat.pow_succ, Nat.mul_comm], Nat.mod_mul]

theorem bytesOf_get? (s : Nat) : ∀ v i, i < s → (bytesOf s v)[i]? = some (UInt8.ofNat (v / 256 ^ i)) := by
  induction s with
  | zero => intro v i h; omega
  | succ n ih =>
    intro v i h
    cases i with
    | zero => simp [bytesOf]
    | succ k =>
      rw [bytesOf, List.getElem?_cons_succ, ih _ _ (by omega), Nat.div_div_eq_div_mul, Nat.pow_succ, Nat.mul_comm]

theorem numOf_one (bs : List UInt8) (a : Nat) (h : a < bs.length) : numOf ((bs.drop a).take 1) = bs[a].toNat := by
  rw [List.drop_eq_getElem_cons h, List.take_succ_cons, List.take_zero]
  rfl

/-- Byte i of what was stored. -/
theorem byte_stored (bs : List UInt8) (a s v i : Nat) (h : a + s ≤ bs.length) (hi : i < s) : numOf (((putAt bs a (bytesOf s v)).drop (a + i)).take 1) = v / 256 ^ i % 256 := by
  have hl : a + i < (putAt bs a (bytesOf s v)).length := by rw [length_putAt]; omega
  rw [numOf_one _ _ hl]
  have h1 := putAt_get? (bytesOf s v) bs a (by rw [length_bytesOf]; exact h) (a + i)
  rw [length_bytesOf, if_pos (by omega), show a + i - a = i by omega, bytesOf_get? s v i hi, List.getElem?_eq_getElem hl] at h1
  rw [Option.some.inj h1, UInt8.toNat_ofNat']

theorem num_stored (bs : List UInt8) (a s v : Nat) (h : a + s ≤ bs.length) : numOf (((putAt bs a (bytesOf s v)).drop a).take s) = v % 256 ^ s := by
  have := take_drop_putAt bs a (bytesOf s v) (by rw [length_bytesOf]; exact h)
  rw [length_bytesOf] at this
  rw [this, numOf_bytesOf]

theorem U8_ofNat (v : Nat) : U8 (UInt8.ofNat v) = .int .u8 ((v : Int) % 256) := by
  simp [U8, UInt8.toNat_ofNat']

theorem or32_zero (x : Nat) (hx : x < 4294967296) : bits .or .u32 0 (x : Int) = ((x : Nat) : Int) := by
  have := u32_or_nat 0 x (by omega) hx
  simpa using this

theorem or32_join (k x y : Nat) (hx : x < 2 ^ k) (h : y * 2 ^ k < 4294967296) (hk : 2 ^ k ≤ 4294967296) : bits .or .u32 (x : Int) ((y : Int) * (2 : Int) ^ k) = ((x + y * 2 ^ k : Nat) : Int) := by
  have h1 : ((y : Int) * (2 : Int) ^ k) = ((y * 2 ^ k : Nat) : Int) := by simp
  rw [h1, u32_or_nat x (y * 2 ^ k) (by omega) h]
  congr 1
  rw [Nat.or_comm, nat_join k (y * 2 ^ k) x (Nat.mul_mod_left _ _) hx, Nat.add_comm]

theorem or32_8 (x y : Nat) (hx : x < 256) (hy : y < 256) : bits .or .u32 (x : Int) ((y : Int) * 256) = ((x + y * 256 : Nat) : Int) := by
  have := or32_join 8 x y (by omega) (by omega) (by omega)
  simpa using this
theorem or32_16 (x y : Nat) (hx : x < 65536) (hy : y < 256) : bits .or .u32 (x : Int) ((y : Int) * 65536) = ((x + y * 65536 : Nat) : Int) := by
  have := or32_join 16 x y (by omega) (by omega) (by omega)
  simpa using this
theorem or32_24 (x y : Nat) (hx : x < 16777216) (hy : y < 256) : bits .or .u32 (x : Int) ((y : Int) * 16777216) = ((x + y * 16777216 : Nat) : Int) := by
  have := or32_join 24 x y (by omega) (by omega) (by omega)
  simpa using this

theorem or32_one (x0 : Nat) (h0 : x0 < 256) : bits .or .u32 0 (x0 : Int) = ((x0 + 256 * 0 : Nat) : Int) := by
  rw [or32_zero x0 (by omega)]; omega
theorem or32_two (x0 x1 : Nat) (h0 : x0 < 256) (h1 : x1 < 256) : bits .or .u32 (bits .or .u32 0 (x0 : Int)) ((x1 : Int) * 256) = ((x0 + 256 * (x1 + 256 * 0) : Nat) : Int) := by
  rw [or32_zero x0 (by omega), or32_8 x0 x1 h0 h1]; omega
theorem or32_four (x0 x1 x2 x3 : Nat) (h0 : x0 < 256) (h1 : x1 < 256) (h2 : x2 < 256) (h3 : x3 < 256) :
    bits .or .u32 (bits .or .u32 (bits .or .u32 (bits .or .u32 0 (x0 : Int)) ((x1 : Int) * 256)) ((x2 : Int) * 65536)) ((x3 : Int) * 16777216) = ((x0 + 256 * (x1 + 256 * (x2 + 256 * (x3 + 256 * 0))) : Nat) : Int) := by
  rw [or32_zero x0 (by omega), or32_8 x0 x1 h0 h1, or32_16 _ x2 (by omega) h2, or32_24 _ x3 (by omega) h3]; omega

end Go.Proofs.YtecipogfdhpjfaaGreatDoor
