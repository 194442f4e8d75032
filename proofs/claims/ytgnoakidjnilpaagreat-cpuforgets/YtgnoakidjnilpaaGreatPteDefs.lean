/-
  Table entries as plain numbers: which are right, their words, the entries of words. No program, no statement.
-/
import Derived.Test.YtgnoakidjnilpaaGreatBytes
namespace Go.Proofs.YtgnoakidjnilpaaGreat
open Go.RowKit

/-- Which entries are right. -/
def rightE (v l : Bool) (r f : Int) : Bool :=
  if v then decide (0 ≤ f) && decide (f ≤ 1023) && (if l then decide (0 ≤ r) && decide (r ≤ 7) else decide (r = 0)) else !l && decide (r = 0) && decide (f = 0)
/-- An entry's word. -/
def wordE (v l : Bool) (r f : Int) : Int := f * 64 + r * 4 + (if l then 2 else 0) + (if v then 1 else 0)
/-- What Encode answers. -/
def encW (v l : Bool) (r f : Int) : Int := if rightE v l r f then wordE v l r f else 0
def encE (v l : Bool) (r f : Int) : Int := if rightE v l r f then 0 else 20
/-- A word's parts. -/
def pv (x : Int) : Bool := x % 2 == 1
def pl (x : Int) : Bool := x / 2 % 2 == 1
def pr (x : Int) : Int := x / 4 % 8
def pf (x : Int) : Int := x / 64
/-- Is a word an entry's? -/
def decOk (x : Int) : Bool := rightE (pv x) (pl x) (pr x) (pf x) && decide (x / 32 % 2 = 0)
/-- What Decode answers. -/
def dv (x : Int) : Bool := decOk x && pv x
def dl (x : Int) : Bool := decOk x && pl x
def dr (x : Int) : Int := if decOk x then pr x else 0
def df (x : Int) : Int := if decOk x then pf x else 0
def de (x : Int) : Int := if decOk x then 0 else 20

theorem right_cases {v l : Bool} {r f : Int} (h : rightE v l r f = true) : (v = false ∧ l = false ∧ r = 0 ∧ f = 0) ∨ (v = true ∧ l = false ∧ r = 0 ∧ 0 ≤ f ∧ f ≤ 1023) ∨ (v = true ∧ l = true ∧ 0 ≤ r ∧ r ≤ 7 ∧ 0 ≤ f ∧ f ≤ 1023) := by
  unfold rightE at h
  cases v <;> cases l <;> simp at h ⊢ <;> omega

theorem word_bounds {v l : Bool} {r f : Int} (h : rightE v l r f = true) : 0 ≤ wordE v l r f ∧ wordE v l r f ≤ 65535 := by
  unfold wordE
  rcases right_cases h with ⟨rfl, rfl, rfl, rfl⟩ | ⟨rfl, rfl, rfl, h1, h2⟩ | ⟨rfl, rfl, h1, h2, h3, h4⟩ <;> simp <;> omega

theorem enc_bounds (v l : Bool) (r f : Int) : 0 ≤ encW v l r f ∧ encW v l r f ≤ 65535 := by
  unfold encW
  by_cases h : rightE v l r f = true
  · rw [if_pos h]; exact word_bounds h
  · rw [if_neg h]; omega

theorem parts_word {v l : Bool} {r f : Int} (h : rightE v l r f = true) : pv (wordE v l r f) = v ∧ pl (wordE v l r f) = l ∧ pr (wordE v l r f) = r ∧ pf (wordE v l r f) = f ∧ wordE v l r f / 32 % 2 = 0 := by
  unfold wordE pv pl pr pf
  rcases right_cases h with ⟨rfl, rfl, rfl, rfl⟩ | ⟨rfl, rfl, rfl, h1, h2⟩ | ⟨rfl, rfl, h1, h2, h3, h4⟩ <;> simp <;> omega

theorem dec_enc {v l : Bool} {r f : Int} (h : rightE v l r f = true) : decOk (wordE v l r f) = true := by
  obtain ⟨h1, h2, h3, h4, h5⟩ := parts_word h
  unfold decOk
  rw [h1, h2, h3, h4, h, decide_eq_true h5]; rfl

theorem dec_back {v l : Bool} {r f : Int} (h : rightE v l r f = true) : dv (wordE v l r f) = v ∧ dl (wordE v l r f) = l ∧ dr (wordE v l r f) = r ∧ df (wordE v l r f) = f ∧ de (wordE v l r f) = 0 := by
  obtain ⟨h1, h2, h3, h4, h5⟩ := parts_word h
  have h6 := dec_enc h
  unfold dv dl dr df de
  rw [h6, h1, h2, h3, h4]
  simp

theorem ok_right {x : Int} (h : decOk x = true) : rightE (pv x) (pl x) (pr x) (pf x) = true := by
  unfold decOk at h
  simp only [Bool.and_eq_true] at h
  exact h.1

theorem word_parts {x : Int} (h : decOk x = true) : wordE (pv x) (pl x) (pr x) (pf x) = x := by
  unfold decOk at h
  simp only [Bool.and_eq_true, decide_eq_true_eq] at h
  have h2 := h.2
  unfold wordE pv pl pr pf
  by_cases a : x % 2 = 1 <;> by_cases b : x / 2 % 2 = 1 <;> simp [a, b] <;> omega

theorem bad_word {x : Int} (h : decOk x = false) (hr : rightE (pv x) (pl x) (pr x) (pf x) = true) : wordE (pv x) (pl x) (pr x) (pf x) ≠ x := by
  unfold decOk at h
  rw [hr] at h
  simp at h
  unfold wordE pv pl pr pf
  by_cases a : x % 2 = 1 <;> by_cases b : x / 2 % 2 = 1 <;> simp [a, b] <;> omega

theorem right_zero : rightE false false 0 0 = true := rfl

theorem dec_right (x : Int) : rightE (dv x) (dl x) (dr x) (df x) = true := by
  unfold dv dl dr df
  by_cases h : decOk x = true
  · rw [h]; simpa using ok_right h
  · simp at h; rw [h]; rfl

theorem dec_word {x : Int} (h : decOk x = true) : wordE (dv x) (dl x) (dr x) (df x) = x := by
  unfold dv dl dr df
  rw [h]; simpa using word_parts h

theorem word_inj {v l v' l' : Bool} {r f r' f' : Int} (h : rightE v l r f = true) (h' : rightE v' l' r' f' = true) (e : wordE v l r f = wordE v' l' r' f') : v = v' ∧ l = l' ∧ r = r' ∧ f = f' := by
  obtain ⟨a1, a2, a3, a4, _⟩ := parts_word h
  obtain ⟨b1, b2, b3, b4, _⟩ := parts_word h'
  rw [e] at a1 a2 a3 a4
  exact ⟨a1.symm.trans b1, a2.symm.trans b2, a3.symm.trans b3, a4.symm.trans b4⟩

theorem or16_join (k x y : Nat) (hx : x < 2 ^ k) (h : y * 2 ^ k < 65536) (hk : 2 ^ k ≤ 65536) : bits .or .u16 (x : Int) ((y : Int) * (2 : Int) ^ k) = ((x + y * 2 ^ k : Nat) : Int) := by
  have h1 : ((y : Int) * (2 : Int) ^ k) = ((y * 2 ^ k : Nat) : Int) := by simp
  rw [h1, u16_or_nat x (y * 2 ^ k) (by omega) h]
  congr 1
  rw [Nat.or_comm, nat_join k (y * 2 ^ k) x (Nat.mul_mod_left _ _) hx, Nat.add_comm]

theorem or16_2 (x y : Nat) (hx : x < 4) (hy : y < 8) : bits .or .u16 (x : Int) ((y : Int) * 4) = ((x + y * 4 : Nat) : Int) := by
  have := or16_join 2 x y (by omega) (by omega) (by omega)
  simpa using this
theorem or16_6 (x y : Nat) (hx : x < 64) (hy : y < 1024) : bits .or .u16 (x : Int) ((y : Int) * 64) = ((x + y * 64 : Nat) : Int) := by
  have := or16_join 6 x y (by omega) (by omega) (by omega)
  simpa using this

/-- The word as the code joins it. -/
theorem join_word (r f : Int) (k : Nat) (hk : k < 4) (h1 : 0 ≤ r) (h2 : r ≤ 7) (h3 : 0 ≤ f) (h4 : f ≤ 1023) : bits .or .u16 (bits .or .u16 (k : Int) (r * 4)) (f * 64) = f * 64 + r * 4 + (k : Int) := by
  obtain ⟨r, rfl⟩ := Int.eq_ofNat_of_zero_le h1
  obtain ⟨f, rfl⟩ := Int.eq_ofNat_of_zero_le h3
  rw [or16_2 k r hk (by omega), or16_6 (k + r * 4) f (by omega) (by omega)]
  omega

theorem and16_1 (x : Nat) (h : x < 65536) : bits .and .u16 (x : Int) 1 = ((x % 2 : Nat) : Int) := by
  have := u16_and_nat x 1 h (by omega)
  rw [show x &&& 1 = x % 2 from Nat.and_one_is_mod x] at this
  exact this
theorem and16_7 (x : Nat) (h : x < 65536) : bits .and .u16 (x : Int) 7 = ((x % 8 : Nat) : Int) := by
  have := u16_and_nat x 7 h (by omega)
  rw [Nat.and_two_pow_sub_one_eq_mod x 3] at this
  exact this

end Go.Proofs.YtgnoakidjnilpaaGreat
