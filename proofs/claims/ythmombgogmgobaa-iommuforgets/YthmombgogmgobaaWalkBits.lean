/-
  Plain facts on rights as bits, and on what a walk tells: what it tells lies in range, is less with less rights, lies in what the other table gives, hangs on its tables alone. No program, no statement.
-/
import Derived.Test.YthmombgogmgobaaWalkDefs
import Derived.Laws.BitsAllLaws
namespace Go.Proofs.Ythmombgogmgobaa
open Go.RowKit

/-- A number's sixty-four bits. -/
def bitsOf (n : Int) : Nat := (BitVec.ofInt 64 n).toNat

theorem and_nat (a : Nat) (ha : a < 8) (n : Int) : bits .and .i64 (a : Int) n = ((a &&& bitsOf n : Nat) : Int) := by
  have hx : a &&& bitsOf n ≤ a := Nat.and_le_left
  show IntKind.i64.wrap ((BitVec.ofInt 64 (a : Int) &&& BitVec.ofInt 64 n).toNat : Int) = _
  rw [BitVec.toNat_and, BitVec.ofInt_natCast, BitVec.toNat_ofNat, Nat.mod_eq_of_lt (show a < 2 ^ 64 by omega)]
  show IntKind.i64.wrap ((a &&& bitsOf n : Nat) : Int) = _
  simp only [IntKind.wrap, IntKind.bits, IntKind.signed]
  generalize (a &&& bitsOf n) = k at hx ⊢
  simp
  omega

theorem andNot_nat (a b : Nat) (ha : a < 8) (hb : b < 8) : bits .andNot .i64 (a : Int) (b : Int) = ((a &&& (18446744073709551615 - b) : Nat) : Int) := by
  have hx : a &&& (18446744073709551615 - b) ≤ a := Nat.and_le_left
  show IntKind.i64.wrap ((BitVec.ofInt 64 (a : Int) &&& ~~~BitVec.ofInt 64 (b : Int)).toNat : Int) = _
  rw [BitVec.toNat_and, BitVec.toNat_not, BitVec.ofInt_natCast, BitVec.ofInt_natCast, BitVec.toNat_ofNat, BitVec.toNat_ofNat, Nat.mod_eq_of_lt (show a < 2 ^ 64 by omega), Nat.mod_eq_of_lt (show b < 2 ^ 64 by omega)]
  have e : 2 ^ 64 - 1 - b = 18446744073709551615 - b := by omega
  rw [e]
  simp only [IntKind.wrap, IntKind.bits, IntKind.signed]
  generalize (a &&& (18446744073709551615 - b)) = k at hx ⊢
  simp
  omega

theorem and_range (r n : Int) (h0 : 0 ≤ r) (h7 : r ≤ 7) : 0 ≤ bits .and .i64 r n ∧ bits .and .i64 r n ≤ r := by
  obtain ⟨a, rfl⟩ := Int.eq_ofNat_of_zero_le h0
  rw [and_nat a (by omega)]
  have hx : a &&& bitsOf n ≤ a := Nat.and_le_left
  omega

/-- What is left of rights is in them. -/
theorem and_sub (r n : Int) (h0 : 0 ≤ r) (h7 : r ≤ 7) : bits .andNot .i64 (bits .and .i64 r n) r = 0 := by
  obtain ⟨a, rfl⟩ := Int.eq_ofNat_of_zero_le h0
  have hx : a &&& bitsOf n ≤ a := Nat.and_le_left
  rw [and_nat a (by omega), andNot_nat _ a (by omega) (by omega)]
  have e : (a &&& bitsOf n) &&& (18446744073709551615 - a) = (a &&& (18446744073709551615 - a)) &&& bitsOf n := by
    rw [Nat.and_assoc, Nat.and_comm (bitsOf n), ← Nat.and_assoc]
  rw [e]
  have e0 : a &&& (18446744073709551615 - a) = 0 := by
    have : a = 0 ∨ a = 1 ∨ a = 2 ∨ a = 3 ∨ a = 4 ∨ a = 5 ∨ a = 6 ∨ a = 7 := by omega
    rcases this with rfl | rfl | rfl | rfl | rfl | rfl | rfl | rfl <;> decide
  rw [e0]
  simp

/-- A right of what is left is one of the whole. -/
theorem and_more (r n want : Int) (h0 : 0 ≤ r) (h7 : r ≤ 7) (h : bits .and .i64 (bits .and .i64 r n) want ≠ 0) : bits .and .i64 r want ≠ 0 := by
  obtain ⟨a, rfl⟩ := Int.eq_ofNat_of_zero_le h0
  have hx : a &&& bitsOf n ≤ a := Nat.and_le_left
  rw [and_nat a (by omega), and_nat _ (by omega)] at h
  rw [and_nat a (by omega)]
  intro e
  apply h
  have e' : a &&& bitsOf want = 0 := by omega
  have : (a &&& bitsOf n) &&& bitsOf want = (a &&& bitsOf want) &&& bitsOf n := by
    rw [Nat.and_assoc, Nat.and_comm (bitsOf n), ← Nat.and_assoc]
  rw [this, e']
  simp

theorem and_comm' (r q : Int) (h0 : 0 ≤ r) (h7 : r ≤ 7) (h0' : 0 ≤ q) (h7' : q ≤ 7) : bits .and .i64 r q = bits .and .i64 q r := by
  obtain ⟨a, rfl⟩ := Int.eq_ofNat_of_zero_le h0
  obtain ⟨b, rfl⟩ := Int.eq_ofNat_of_zero_le h0'
  have eb : ∀ k : Nat, k < 8 → bitsOf (k : Int) = k := fun k hk => by
    unfold bitsOf
    rw [BitVec.ofInt_natCast, BitVec.toNat_ofNat]
    omega
  rw [and_nat a (by omega), and_nat b (by omega), eb a (by omega), eb b (by omega), Nat.and_comm]

/-- A right wanted that is in both is in what both have. -/
theorem and_both (r q want : Int) (h0 : 0 ≤ r) (h7 : r ≤ 7) (h0' : 0 ≤ q) (h7' : q ≤ 7) (hw : want = 1 ∨ want = 2 ∨ want = 4) (h1 : bits .and .i64 r want ≠ 0) (h2 : bits .and .i64 q want ≠ 0) : bits .and .i64 (bits .and .i64 r q) want ≠ 0 := by
  have hr : r = 0 ∨ r = 1 ∨ r = 2 ∨ r = 3 ∨ r = 4 ∨ r = 5 ∨ r = 6 ∨ r = 7 := by omega
  have hq : q = 0 ∨ q = 1 ∨ q = 2 ∨ q = 3 ∨ q = 4 ∨ q = 5 ∨ q = 6 ∨ q = 7 := by omega
  revert h1 h2
  rcases hw with rfl | rfl | rfl <;> rcases hr with rfl | rfl | rfl | rfl | rfl | rfl | rfl | rfl <;> rcases hq with rfl | rfl | rfl | rfl | rfl | rfl | rfl | rfl <;> decide

theorem dr_range (x : Int) : 0 ≤ dr x ∧ dr x ≤ 7 := by
  unfold dr
  split
  · unfold pr; omega
  · omega

theorem df_range {x : Int} (h0 : 0 ≤ x) (h1 : x < 65536) : 0 ≤ df x ∧ df x ≤ 1023 := by
  unfold df
  split
  · unfold pf; omega
  · omega

theorem ew_range (bs : List UInt8) (t page lvl : Int) : 0 ≤ ew bs t page lvl ∧ ew bs t page lvl < 65536 := by
  have := half_lt bs t.toNat (idxOf page lvl).toNat
  unfold ew
  omega

theorem single_cases (bs : List UInt8) (nf : Nat) (root page : Int) : (isP page = false ∧ single bs nf root page = miss 3 0 0 false 0) ∨ (isP page = true ∧ entK bs nf root page 0 ≠ 0 ∧ single bs nf root page = miss (entK bs nf root page 0) 2 0 false page) ∨
    (isP page = true ∧ entK bs nf root page 0 = 0 ∧ entK bs nf (df (ew bs root page 0)) page 1 ≠ 0 ∧ single bs nf root page = miss (entK bs nf (df (ew bs root page 0)) page 1) 2 1 false page) ∨
    (isP page = true ∧ entK bs nf root page 0 = 0 ∧ entK bs nf (df (ew bs root page 0)) page 1 = 0 ∧ single bs nf root page = ⟨df (ew bs (df (ew bs root page 0)) page 1), dr (ew bs (df (ew bs root page 0)) page 1), f0⟩) := by
  unfold single
  cases hp : isP page with
  | false => exact Or.inl ⟨rfl, by simp⟩
  | true =>
    right
    by_cases h1 : entK bs nf root page 0 = 0
    · right
      by_cases h2 : entK bs nf (df (ew bs root page 0)) page 1 = 0
      · right
        exact ⟨rfl, h1, h2, by simp [h1, h2]⟩
      · left
        exact ⟨rfl, h1, h2, by simp [h1, h2]⟩
    · left
      exact ⟨rfl, h1, by simp [h1]⟩

/-- What one table's walk tells lies in range; its fault of no kind is none. -/
theorem single_range (bs : List UInt8) (nf : Nat) (root page : Int) : (0 ≤ (single bs nf root page).fr ∧ (single bs nf root page).fr ≤ 1023) ∧ (0 ≤ (single bs nf root page).ri ∧ (single bs nf root page).ri ≤ 7) ∧ ((single bs nf root page).ft.k = 0 → (single bs nf root page).ft = f0 ∧ isP page = true) := by
  rcases single_cases bs nf root page with ⟨hp, e⟩ | ⟨hp, h1, e⟩ | ⟨hp, h1, h2, e⟩ | ⟨hp, h1, h2, e⟩
  · rw [e]; exact ⟨⟨Int.le_refl 0, by decide⟩, ⟨Int.le_refl 0, by decide⟩, fun h => absurd h (by decide)⟩
  · rw [e]; exact ⟨⟨Int.le_refl 0, (by decide : (0 : Int) ≤ 1023)⟩, ⟨Int.le_refl 0, (by decide : (0 : Int) ≤ 7)⟩, fun h => absurd h h1⟩
  · rw [e]; exact ⟨⟨Int.le_refl 0, (by decide : (0 : Int) ≤ 1023)⟩, ⟨Int.le_refl 0, (by decide : (0 : Int) ≤ 7)⟩, fun h => absurd h h2⟩
  · rw [e]
    have a := ew_range bs (df (ew bs root page 0)) page 1
    exact ⟨df_range a.1 a.2, dr_range _, fun _ => ⟨rfl, hp⟩⟩

theorem granted_cases (bs : List UInt8) (nf : Nat) (root page want : Int) : ((single bs nf root page).ft.k ≠ 0 ∧ granted bs nf root page want = single bs nf root page) ∨
    ((single bs nf root page).ft.k = 0 ∧ bits .and .i64 (single bs nf root page).ri want = 0 ∧ granted bs nf root page want = miss 2 2 1 false page) ∨
    ((single bs nf root page).ft.k = 0 ∧ bits .and .i64 (single bs nf root page).ri want ≠ 0 ∧ granted bs nf root page want = single bs nf root page) := by
  unfold granted
  by_cases h1 : (single bs nf root page).ft.k = 0
  · right
    by_cases h2 : bits .and .i64 (single bs nf root page).ri want = 0
    · left; exact ⟨h1, h2, by rw [if_neg (by simpa using h1), if_pos h2]⟩
    · right; exact ⟨h1, h2, by rw [if_neg (by simpa using h1), if_neg h2]⟩
  · left; exact ⟨h1, by rw [if_pos h1]⟩

/-- Where a wanted right is found, one table's walk says just that, and has it. -/
theorem granted_ok {bs : List UInt8} {nf : Nat} {root page want : Int} (h : (granted bs nf root page want).ft.k = 0) : granted bs nf root page want = single bs nf root page ∧ (single bs nf root page).ft.k = 0 ∧ bits .and .i64 (single bs nf root page).ri want ≠ 0 := by
  rcases granted_cases bs nf root page want with ⟨h1, e⟩ | ⟨h1, h2, e⟩ | ⟨h1, h2, e⟩
  · rw [e] at h; exact absurd h h1
  · rw [e] at h; exact absurd (show (2 : Int) = 0 from h) (by decide)
  · exact ⟨e, h1, h2⟩

theorem granted_f0 {bs : List UInt8} {nf : Nat} {root page want : Int} (h : (granted bs nf root page want).ft.k = 0) : (granted bs nf root page want).ft = f0 := by
  obtain ⟨e, h1, _⟩ := granted_ok h
  rw [e]
  exact ((single_range bs nf root page).2.2 h1).1

theorem lies_cases (bs : List UInt8) (nf : Nat) (second table : Int) : ((granted bs nf second table 1).ft.k ≠ 0 ∧ lies bs nf second table = ⟨0, 0, ⟨(granted bs nf second table 1).ft.k, (granted bs nf second table 1).ft.s, (granted bs nf second table 1).ft.l, true, (granted bs nf second table 1).ft.p⟩⟩) ∨
    ((granted bs nf second table 1).ft.k = 0 ∧ lies bs nf second table = granted bs nf second table 1) := by
  unfold lies
  by_cases h1 : (granted bs nf second table 1).ft.k = 0
  · right; exact ⟨h1, by rw [if_neg (by simpa using h1)]⟩
  · left; exact ⟨h1, by rw [if_pos h1]⟩

theorem guest_cases (bs : List UInt8) (nf : Nat) (second table page lvl : Int) : ((lies bs nf second table).ft.k ≠ 0 ∧ guest bs nf second table page lvl = lies bs nf second table) ∨
    ((lies bs nf second table).ft.k = 0 ∧ entK bs nf (lies bs nf second table).fr page lvl ≠ 0 ∧ guest bs nf second table page lvl = miss (entK bs nf (lies bs nf second table).fr page lvl) 1 lvl false page) ∨
    ((lies bs nf second table).ft.k = 0 ∧ entK bs nf (lies bs nf second table).fr page lvl = 0 ∧ guest bs nf second table page lvl = ⟨df (ew bs (lies bs nf second table).fr page lvl), dr (ew bs (lies bs nf second table).fr page lvl), f0⟩) := by
  unfold guest
  by_cases h1 : (lies bs nf second table).ft.k = 0
  · right
    by_cases h2 : entK bs nf (lies bs nf second table).fr page lvl = 0
    · right; exact ⟨h1, h2, by rw [if_neg (by simpa using h1), if_neg (by simpa using h2)]⟩
    · left; exact ⟨h1, h2, by rw [if_neg (by simpa using h1), if_pos h2]⟩
  · left; exact ⟨h1, by rw [if_pos h1]⟩

theorem lies_zero (bs : List UInt8) (nf : Nat) (second table : Int) (h : (lies bs nf second table).ft.k ≠ 0) : (lies bs nf second table).fr = 0 ∧ (lies bs nf second table).ri = 0 := by
  rcases lies_cases bs nf second table with ⟨_, e⟩ | ⟨h1, e⟩
  · rw [e]; exact ⟨rfl, rfl⟩
  · rw [e] at h; exact absurd h1 h

theorem guest_zero (bs : List UInt8) (nf : Nat) (second table page lvl : Int) (h : (guest bs nf second table page lvl).ft.k ≠ 0) : (guest bs nf second table page lvl).fr = 0 ∧ (guest bs nf second table page lvl).ri = 0 := by
  rcases guest_cases bs nf second table page lvl with ⟨h1, e⟩ | ⟨_, h2, e⟩ | ⟨_, _, e⟩
  · rw [e]; exact lies_zero bs nf second table h1
  · rw [e]; exact ⟨rfl, rfl⟩
  · rw [e] at h; exact absurd rfl h

theorem guest_range {bs : List UInt8} {nf : Nat} {second table page lvl : Int} (h : (guest bs nf second table page lvl).ft.k = 0) : (0 ≤ (guest bs nf second table page lvl).fr ∧ (guest bs nf second table page lvl).fr ≤ 1023) ∧ (0 ≤ (guest bs nf second table page lvl).ri ∧ (guest bs nf second table page lvl).ri ≤ 7) := by
  rcases guest_cases bs nf second table page lvl with ⟨h1, e⟩ | ⟨_, h2, e⟩ | ⟨_, _, e⟩
  · rw [e] at h; exact absurd h h1
  · rw [e] at h; exact absurd h h2
  · rw [e]
    have a := ew_range bs (lies bs nf second table).fr page lvl
    exact ⟨df_range a.1 a.2, dr_range _⟩

end Go.Proofs.Ythmombgogmgobaa
