/-
  Instructions as plain numbers: their forms, which are right, their words, the instructions of words. No program, no statement.
-/
import Derived.Test.YtecipogfdhpjfaaGreatDoorBytes
namespace Go.Proofs.YtecipogfdhpjfaaGreatDoor
open Go.RowKit

/-- The number of an operation's form: 0 none, 1 ai, 2 abc, 3 abi, 4 i, 5 b, 6 bi, 7 a, 8 nothing. -/
def kf (op : Int) : Nat :=
  if op = 1 ∨ op = 15 ∨ op = 19 then 1 else if 2 ≤ op ∧ op ≤ 6 then 2 else if 7 ≤ op ∧ op ≤ 13 then 3 else if op = 14 ∨ op = 17 ∨ op = 18 then 4
  else if op = 16 ∨ op = 23 then 5 else if op = 20 then 6 else if op = 22 then 7 else if op = 21 ∨ op = 24 ∨ op = 25 then 8 else 0
/-- The form's text. -/
def fs : Nat → ByteArray
  | 1 => ⟨#[97, 105]⟩ | 2 => ⟨#[97, 98, 99]⟩ | 3 => ⟨#[97, 98, 105]⟩ | 4 => ⟨#[105]⟩ | 5 => ⟨#[98]⟩ | 6 => ⟨#[98, 105]⟩ | 7 => ⟨#[97]⟩ | 8 => ⟨#[45]⟩ | _ => ⟨#[]⟩
def hA (k : Nat) : Bool := k == 1 || k == 2 || k == 3 || k == 7
def hB (k : Nat) : Bool := k == 2 || k == 3 || k == 5 || k == 6
def hC (k : Nat) : Bool := k == 2
def hI (k : Nat) : Bool := k == 1 || k == 3 || k == 4 || k == 6
/-- May a field be this? -/
def fld (h : Bool) (n m : Int) : Bool := if h then decide (0 ≤ n) && decide (n ≤ m) else n == 0
/-- Which instructions are right. -/
def rightI (o a b c i : Int) : Bool := kf o != 0 && fld (hA (kf o)) a 15 && fld (hB (kf o)) b 15 && fld (hC (kf o)) c 15 && fld (hI (kf o)) i 65535
/-- An instruction's word. -/
def wordI (o a b c i : Int) : Int := ((o * 16 + a) * 16 + b) * 65536 + c + i
/-- What Encode answers. -/
def encW (o a b c i : Int) : Int := if rightI o a b c i then wordI o a b c i else 0
def encE (o a b c i : Int) : Int := if rightI o a b c i then 0 else 50
/-- A word's parts. -/
def qo (x : Int) : Int := x / 16777216
def qa (x : Int) : Int := if hA (kf (qo x)) then x / 1048576 % 16 else 0
def qb (x : Int) : Int := if hB (kf (qo x)) then x / 65536 % 16 else 0
def qc (x : Int) : Int := if hC (kf (qo x)) then x % 16 else 0
def qi (x : Int) : Int := if hI (kf (qo x)) then x % 65536 else 0
/-- Is a word an instruction's? -/
def decOk (x : Int) : Bool := kf (qo x) != 0 && wordI (qo x) (qa x) (qb x) (qc x) (qi x) == x
def dOp (x : Int) : Int := if decOk x then qo x else 0
def dA (x : Int) : Int := if decOk x then qa x else 0
def dB (x : Int) : Int := if decOk x then qb x else 0
def dC (x : Int) : Int := if decOk x then qc x else 0
def dI (x : Int) : Int := if decOk x then qi x else 0
def dE (x : Int) : Int := if decOk x then 0 else 50
/-- Which operations only read A. -/
def onl (op : Int) : Bool := op == 8 || op == 10 || op == 11 || op == 12 || op == 13

theorem kf_le (op : Int) : kf op ≤ 8 := by unfold kf; repeat' split
                                           all_goals omega
theorem kf_range {op : Int} (h : kf op ≠ 0) : 1 ≤ op ∧ op ≤ 25 := by
  unfold kf at h
  repeat' split at h
  all_goals omega
theorem kf_cases {P : Nat → Prop} (op : Int) (h0 : P 0) (h1 : P 1) (h2 : P 2) (h3 : P 3) (h4 : P 4) (h5 : P 5) (h6 : P 6) (h7 : P 7) (h8 : P 8) : P (kf op) := by
  unfold kf
  repeat' split
  all_goals assumption
theorem op_cases {op : Int} (h : 1 ≤ op ∧ op ≤ 25) : op = 1 ∨ op = 2 ∨ op = 3 ∨ op = 4 ∨ op = 5 ∨ op = 6 ∨ op = 7 ∨ op = 8 ∨ op = 9 ∨ op = 10 ∨ op = 11 ∨ op = 12 ∨ op = 13 ∨ op = 14 ∨ op = 15 ∨ op = 16 ∨ op = 17 ∨ op = 18 ∨ op = 19 ∨ op = 20 ∨ op = 21 ∨ op = 22 ∨ op = 23 ∨ op = 24 ∨ op = 25 := by omega

theorem fld_yes {n m : Int} : fld true n m = true ↔ 0 ≤ n ∧ n ≤ m := by simp [fld]
theorem fld_no {n m : Int} : fld false n m = true ↔ n = 0 := by simp [fld]
theorem fld_bounds {h : Bool} {n m : Int} (hm : 0 ≤ m) (e : fld h n m = true) : 0 ≤ n ∧ n ≤ m := by
  cases h
  · rw [fld_no] at e; omega
  · exact fld_yes.1 e

theorem right_parts {o a b c i : Int} (h : rightI o a b c i = true) : kf o ≠ 0 ∧ fld (hA (kf o)) a 15 = true ∧ fld (hB (kf o)) b 15 = true ∧ fld (hC (kf o)) c 15 = true ∧ fld (hI (kf o)) i 65535 = true := by
  unfold rightI at h
  simp only [Bool.and_eq_true, bne_iff_ne, ne_eq] at h
  obtain ⟨⟨⟨⟨h1, h2⟩, h3⟩, h4⟩, h5⟩ := h
  exact ⟨h1, h2, h3, h4, h5⟩

theorem right_bounds {o a b c i : Int} (h : rightI o a b c i = true) : (1 ≤ o ∧ o ≤ 25) ∧ (0 ≤ a ∧ a ≤ 15) ∧ (0 ≤ b ∧ b ≤ 15) ∧ (0 ≤ c ∧ c ≤ 15) ∧ (0 ≤ i ∧ i ≤ 65535) ∧ (c = 0 ∨ i = 0) := by
  obtain ⟨h1, h2, h3, h4, h5⟩ := right_parts h
  refine ⟨kf_range h1, fld_bounds (by omega) h2, fld_bounds (by omega) h3, fld_bounds (by omega) h4, fld_bounds (by omega) h5, ?_⟩
  by_cases hk : kf o = 2
  · rw [hk] at h5
    exact Or.inr (fld_no.1 h5)
  · rw [show hC (kf o) = false by simp [hC, hk]] at h4
    exact Or.inl (fld_no.1 h4)

theorem word_bounds {o a b c i : Int} (h : rightI o a b c i = true) : 0 ≤ wordI o a b c i ∧ wordI o a b c i < 4294967296 := by
  have := right_bounds h
  unfold wordI
  omega

theorem word_op {o a b c i : Int} (h : rightI o a b c i = true) : qo (wordI o a b c i) = o := by
  have := right_bounds h
  unfold qo wordI
  omega

theorem parts_word {o a b c i : Int} (h : rightI o a b c i = true) : qa (wordI o a b c i) = a ∧ qb (wordI o a b c i) = b ∧ qc (wordI o a b c i) = c ∧ qi (wordI o a b c i) = i := by
  have hb := right_bounds h
  obtain ⟨h1, h2, h3, h4, h5⟩ := right_parts h
  unfold qa qb qc qi
  rw [word_op h]
  refine ⟨?_, ?_, ?_, ?_⟩
  · cases e : hA (kf o)
    · rw [e] at h2; rw [fld_no.1 h2]; simp
    · simp only [if_true]; unfold wordI; omega
  · cases e : hB (kf o)
    · rw [e] at h3; rw [fld_no.1 h3]; simp
    · simp only [if_true]; unfold wordI; omega
  · cases e : hC (kf o)
    · rw [e] at h4; rw [fld_no.1 h4]; simp
    · simp only [if_true]
      have hi : i = 0 := by
        have : kf o = 2 := by simpa [hC] using e
        rw [this] at h5; exact fld_no.1 h5
      unfold wordI; omega
  · cases e : hI (kf o)
    · rw [e] at h5; rw [fld_no.1 h5]; simp
    · simp only [if_true]
      have hc : c = 0 := by
        have : hC (kf o) = false := by
          revert e
          exact kf_cases (P := fun k => hI k = true → hC k = false) o (by decide) (by decide) (by decide) (by decide) (by decide) (by decide) (by decide) (by decide) (by decide)
        rw [this] at h4; exact fld_no.1 h4
      unfold wordI; omega

/-- What comes out of a word is right, if there is such an operation. -/
theorem parts_right (x : Int) (hk : kf (qo x) ≠ 0) : rightI (qo x) (qa x) (qb x) (qc x) (qi x) = true := by
  unfold rightI qa qb qc qi
  simp only [Bool.and_eq_true, bne_iff_ne, ne_eq]
  refine ⟨⟨⟨⟨hk, ?_⟩, ?_⟩, ?_⟩, ?_⟩
  · cases hA (kf (qo x)) <;> simp [fld] <;> omega
  · cases hB (kf (qo x)) <;> simp [fld] <;> omega
  · cases hC (kf (qo x)) <;> simp [fld] <;> omega
  · cases hI (kf (qo x)) <;> simp [fld] <;> omega

theorem right_back {o a b c i x : Int} (hk : kf o ≠ 0) (e0 : qo x = o) (e1 : qa x = a) (e2 : qb x = b) (e3 : qc x = c) (e4 : qi x = i) : rightI o a b c i = true := by
  subst e0 e1 e2 e3 e4
  exact parts_right x hk

theorem dec_enc {o a b c i : Int} (h : rightI o a b c i = true) : decOk (wordI o a b c i) = true := by
  obtain ⟨h1, h2, h3, h4⟩ := parts_word h
  unfold decOk
  rw [word_op h, h1, h2, h3, h4]
  simp [(right_parts h).1]

theorem dec_back {o a b c i : Int} (h : rightI o a b c i = true) : dOp (wordI o a b c i) = o ∧ dA (wordI o a b c i) = a ∧ dB (wordI o a b c i) = b ∧ dC (wordI o a b c i) = c ∧ dI (wordI o a b c i) = i ∧ dE (wordI o a b c i) = 0 := by
  obtain ⟨h1, h2, h3, h4⟩ := parts_word h
  unfold dOp dA dB dC dI dE
  rw [dec_enc h, word_op h, h1, h2, h3, h4]
  simp

theorem ok_right {x : Int} (h : decOk x = true) : rightI (qo x) (qa x) (qb x) (qc x) (qi x) = true := by
  unfold decOk at h
  simp only [Bool.and_eq_true, bne_iff_ne, ne_eq] at h
  exact parts_right x h.1

theorem ok_word {x : Int} (h : decOk x = true) : wordI (qo x) (qa x) (qb x) (qc x) (qi x) = x := by
  unfold decOk at h
  simp only [Bool.and_eq_true, beq_iff_eq] at h
  exact h.2

theorem word_inj {o a b c i o' a' b' c' i' : Int} (h : rightI o a b c i = true) (h' : rightI o' a' b' c' i' = true) (e : wordI o a b c i = wordI o' a' b' c' i') : o = o' ∧ a = a' ∧ b = b' ∧ c = c' ∧ i = i' := by
  obtain ⟨a1, a2, a3, a4⟩ := parts_word h
  obtain ⟨b1, b2, b3, b4⟩ := parts_word h'
  have a0 := word_op h
  have b0 := word_op h'
  rw [e] at a0 a1 a2 a3 a4
  exact ⟨a0.symm.trans b0, a1.symm.trans b1, a2.symm.trans b2, a3.symm.trans b3, a4.symm.trans b4⟩

theorem orN (k x y : Nat) (hx : x % 2 ^ k = 0) (hy : y < 2 ^ k) (h1 : x < 4294967296) (h2 : y < 4294967296) : bits .or .u32 (x : Int) (y : Int) = ((x + y : Nat) : Int) := by
  rw [u32_or_nat x y h1 h2, nat_join k x y hx hy]

/-- The word as the code joins it. -/
theorem join_word {o a b c i : Int} (h : rightI o a b c i = true) :
    bits .or .u32 (bits .or .u32 (bits .or .u32 (bits .or .u32 (o * 16777216) (a * 1048576)) (b * 65536)) c) i = wordI o a b c i := by
  obtain ⟨h1, h2, h3, h4, h5, h6⟩ := right_bounds h
  obtain ⟨o, rfl⟩ := Int.eq_ofNat_of_zero_le (show 0 ≤ o by omega)
  obtain ⟨a, rfl⟩ := Int.eq_ofNat_of_zero_le h2.1
  obtain ⟨b, rfl⟩ := Int.eq_ofNat_of_zero_le h3.1
  obtain ⟨c, rfl⟩ := Int.eq_ofNat_of_zero_le h4.1
  obtain ⟨i, rfl⟩ := Int.eq_ofNat_of_zero_le h5.1
  rw [show ((o : Int) * 16777216) = ((o * 16777216 : Nat) : Int) by omega, show ((a : Int) * 1048576) = ((a * 1048576 : Nat) : Int) by omega, show ((b : Int) * 65536) = ((b * 65536 : Nat) : Int) by omega]
  rw [orN 24 _ _ (by omega) (by omega) (by omega) (by omega), orN 20 _ _ (by omega) (by omega) (by omega) (by omega), orN 16 _ _ (by omega) (by omega) (by omega) (by omega)]
  unfold wordI
  rcases h6 with h6 | h6
  · rw [orN 16 _ _ (by omega) (by omega) (by omega) (by omega)]
    omega
  · obtain rfl : i = 0 := by omega
    rw [orN 0 _ _ (by omega) (by omega) (by omega) (by omega)]
    omega

theorem bits_range (op : BinOp) (x y : Int) : 0 ≤ bits op .u32 x y ∧ bits op .u32 x y < 4294967296 := by
  unfold bits
  simp only [IntKind.wrap_u32']
  omega

theorem and32_15 (x : Nat) (h : x < 4294967296) : bits .and .u32 (x : Int) 15 = ((x % 16 : Nat) : Int) := by
  have := u32_and_nat x 15 h (by omega)
  rw [Nat.and_two_pow_sub_one_eq_mod x 4] at this
  exact this
theorem and32_65535 (x : Nat) (h : x < 4294967296) : bits .and .u32 (x : Int) 65535 = ((x % 65536 : Nat) : Int) := by
  have := u32_and_nat x 65535 h (by omega)
  rw [Nat.and_two_pow_sub_one_eq_mod x 16] at this
  exact this

/-- The document's way of reading: the same words, and the same parts. -/
def ra (x : Int) : Int := x / 1048576 % 16
def rb (x : Int) : Int := x / 65536 % 16
def rc (x : Int) : Int := if hC (kf (qo x)) then x % 65536 else 0
def ri (x : Int) : Int := if hC (kf (qo x)) then 0 else x % 65536

theorem word_raw (x : Int) : wordI (qo x) (ra x) (rb x) (rc x) (ri x) = x := by
  unfold wordI ra rb rc ri
  cases hC (kf (qo x)) <;> simp [qo] <;> omega

theorem raw_right (x : Int) (h : rightI (qo x) (ra x) (rb x) (rc x) (ri x) = true) : ra x = qa x ∧ rb x = qb x ∧ rc x = qc x ∧ ri x = qi x := by
  obtain ⟨h1, h2, h3, h4, h5⟩ := right_parts h
  unfold ra rb rc ri at *
  unfold qa qb qc qi
  refine ⟨?_, ?_, ?_, ?_⟩
  · cases e : hA (kf (qo x))
    · rw [e] at h2; rw [fld_no.1 h2]; simp
    · simp
  · cases e : hB (kf (qo x))
    · rw [e] at h3; rw [fld_no.1 h3]; simp
    · simp
  · cases e : hC (kf (qo x))
    · simp
    · rw [e] at h4; simp only [if_true] at h4 ⊢; have := fld_yes.1 h4; omega
  · cases e : hI (kf (qo x))
    · rw [e] at h5; rw [fld_no.1 h5]; simp
    · have : hC (kf (qo x)) = false := by
        revert e
        exact kf_cases (P := fun k => hI k = true → hC k = false) (qo x) (by decide) (by decide) (by decide) (by decide) (by decide) (by decide) (by decide) (by decide) (by decide)
      simp [this]

theorem raw_ok (x : Int) : rightI (qo x) (ra x) (rb x) (rc x) (ri x) = decOk x := by
  cases hr : rightI (qo x) (ra x) (rb x) (rc x) (ri x)
  · cases hd : decOk x
    · rfl
    · exfalso
      have hw := ok_word hd
      have hk := ok_right hd
      have hb := right_bounds hk
      have key : ra x = qa x ∧ rb x = qb x ∧ rc x = qc x ∧ ri x = qi x := by
        have e0 := word_raw x
        rw [← hw] at e0
        have e1 : ra x = qa x ∧ rb x = qb x := by
          unfold wordI at hw
          unfold ra rb
          omega
        refine ⟨e1.1, e1.2, ?_⟩
        cases e : hC (kf (qo x))
        · have : qc x = 0 := by simp [qc, e]
          have h3 : rc x = 0 := by simp [rc, e]
          refine ⟨by omega, ?_⟩
          unfold wordI at hw
          simp only [ri, e]
          simp
          omega
        · have : ri x = 0 := by simp [ri, e]
          have h3 : qi x = 0 := by
            have : hI (kf (qo x)) = false := by
              revert e
              exact kf_cases (P := fun k => hC k = true → hI k = false) (qo x) (by decide) (by decide) (by decide) (by decide) (by decide) (by decide) (by decide) (by decide) (by decide)
            simp [qi, this]
          refine ⟨?_, by omega⟩
          unfold wordI at hw
          simp only [rc, e]
          simp
          omega
      rw [key.1, key.2.1, key.2.2.1, key.2.2.2, hk] at hr
      exact absurd hr (by simp)
  · obtain ⟨e1, e2, e3, e4⟩ := raw_right x hr
    unfold decOk
    rw [← e1, ← e2, ← e3, ← e4, word_raw]
    simp [(right_parts hr).1]

end Go.Proofs.YtecipogfdhpjfaaGreatDoor
