/-
  The contracts of what package cpu's load and store make. No statement is proved here.
-/
import Derived.Test.YtgnoakidjnilpaaGreatWalkDefs
import Derived.Laws.BitsAllLaws
import Derived.Test.YtgnoakidjnilpaaGreatWalkDesc
import Derived.Test.YtgnoakidjnilpaaGreatTlbAny
import Derived.Test.YtgnoakidjnilpaaGreatCpuKeep
import Derived.Deep.CutRange
/- WalkBits -/
namespace Go.Proofs.YtgnoakidjnilpaaGreat
open Go.RowKit

/-- A number's sixty-four bits. -/
def bitsOf (n : Int) : Nat := (BitVec.ofInt 64 n).toNat

theorem and_nat (a : Nat) (ha : a < 8) (n : Int) : bits .and .i64 (a : Int) n = ((a &&& bitsOf n : Nat) : Int) := by
  have hx : a &&& bitsOf n ≤ a := Nat.and_le_left
  show IntKind.i64.wrap ((BitVec.ofInt 64 (a : Int) &&& BitVec.ofInt 64 n).toNat : Int) = _
  rw [BitVec.toNat_and, BitVec.ofInt_natCast, BitVec.toNat_ofNat, Nat.mod_eq_of_lt (show a < 2 ^ 64 by omega)]
  show IntKind.i64.wrap ((a &&& bitsOf n : Nat) : Int) = _
  simp only [IntKind.wrap, IntKind.bits, IntKind.signed]
  generalize (a &&& bitsOf n) = k at hx ⊢
  simp
  omega

theorem andNot_nat (a b : Nat) (ha : a < 8) (hb : b < 8) : bits .andNot .i64 (a : Int) (b : Int) = ((a &&& (18446744073709551615 - b) : Nat) : Int) := by
  have hx : a &&& (18446744073709551615 - b) ≤ a := Nat.and_le_left
  show IntKind.i64.wrap ((BitVec.ofInt 64 (a : Int) &&& ~~~BitVec.ofInt 64 (b : Int)).toNat : Int) = _
  rw [BitVec.toNat_and, BitVec.toNat_not, BitVec.ofInt_natCast, BitVec.ofInt_natCast, BitVec.toNat_ofNat, BitVec.toNat_ofNat, Nat.mod_eq_of_lt (show a < 2 ^ 64 by omega), Nat.mod_eq_of_lt (show b < 2 ^ 64 by omega)]
  have e : 2 ^ 64 - 1 - b = 18446744073709551615 - b := by omega
  rw [e]
  simp only [IntKind.wrap, IntKind.bits, IntKind.signed]
  generalize (a &&& (18446744073709551615 - b)) = k at hx ⊢
  simp
  omega

theorem and_range (r n : Int) (h0 : 0 ≤ r) (h7 : r ≤ 7) : 0 ≤ bits .and .i64 r n ∧ bits .and .i64 r n ≤ r := by
  obtain ⟨a, rfl⟩ := Int.eq_ofNat_of_zero_le h0
  rw [and_nat a (by omega)]
  have hx : a &&& bitsOf n ≤ a := Nat.and_le_left
  omega

/-- What is left of rights is in them. -/
theorem and_sub (r n : Int) (h0 : 0 ≤ r) (h7 : r ≤ 7) : bits .andNot .i64 (bits .and .i64 r n) r = 0 := by
  obtain ⟨a, rfl⟩ := Int.eq_ofNat_of_zero_le h0
  have hx : a &&& bitsOf n ≤ a := Nat.and_le_left
  rw [and_nat a (by omega), andNot_nat _ a (by omega) (by omega)]
  have e : (a &&& bitsOf n) &&& (18446744073709551615 - a) = (a &&& (18446744073709551615 - a)) &&& bitsOf n := by
    rw [Nat.and_assoc, Nat.and_comm (bitsOf n), ← Nat.and_assoc]
  rw [e]
  have e0 : a &&& (18446744073709551615 - a) = 0 := by
    have : a = 0 ∨ a = 1 ∨ a = 2 ∨ a = 3 ∨ a = 4 ∨ a = 5 ∨ a = 6 ∨ a = 7 := by omega
    rcases this with rfl | rfl | rfl | rfl | rfl | rfl | rfl | rfl <;> decide
  rw [e0]
  simp

/-- A right of what is left is one of the whole. -/
theorem and_more (r n want : Int) (h0 : 0 ≤ r) (h7 : r ≤ 7) (h : bits .and .i64 (bits .and .i64 r n) want ≠ 0) : bits .and .i64 r want ≠ 0 := by
  obtain ⟨a, rfl⟩ := Int.eq_ofNat_of_zero_le h0
  have hx : a &&& bitsOf n ≤ a := Nat.and_le_left
  rw [and_nat a (by omega), and_nat _ (by omega)] at h
  rw [and_nat a (by omega)]
  intro e
  apply h
  have e' : a &&& bitsOf want = 0 := by omega
  have : (a &&& bitsOf n) &&& bitsOf want = (a &&& bitsOf want) &&& bitsOf n := by
    rw [Nat.and_assoc, Nat.and_comm (bitsOf n), ← Nat.and_assoc]
  rw [this, e']
  simp

theorem and_comm' (r q : Int) (h0 : 0 ≤ r) (h7 : r ≤ 7) (h0' : 0 ≤ q) (h7' : q ≤ 7) : bits .and .i64 r q = bits .and .i64 q r := by
  obtain ⟨a, rfl⟩ := Int.eq_ofNat_of_zero_le h0
  obtain ⟨b, rfl⟩ := Int.eq_ofNat_of_zero_le h0'
  have eb : ∀ k : Nat, k < 8 → bitsOf (k : Int) = k := fun k hk => by
    unfold bitsOf
    rw [BitVec.ofInt_natCast, BitVec.toNat_ofNat]
    omega
  rw [and_nat a (by omega), and_nat b (by omega), eb a (by omega), eb b (by omega), Nat.and_comm]

/-- A right wanted that is in both is in what both have. -/
theorem and_both (r q want : Int) (h0 : 0 ≤ r) (h7 : r ≤ 7) (h0' : 0 ≤ q) (h7' : q ≤ 7) (hw : want = 1 ∨ want = 2 ∨ want = 4) (h1 : bits .and .i64 r want ≠ 0) (h2 : bits .and .i64 q want ≠ 0) : bits .and .i64 (bits .and .i64 r q) want ≠ 0 := by
  have hr : r = 0 ∨ r = 1 ∨ r = 2 ∨ r = 3 ∨ r = 4 ∨ r = 5 ∨ r = 6 ∨ r = 7 := by omega
  have hq : q = 0 ∨ q = 1 ∨ q = 2 ∨ q = 3 ∨ q = 4 ∨ q = 5 ∨ q = 6 ∨ q = 7 := by omega
  revert h1 h2
  rcases hw with rfl | rfl | rfl <;> rcases hr with rfl | rfl | rfl | rfl | rfl | rfl | rfl | rfl <;> rcases hq with rfl | rfl | rfl | rfl | rfl | rfl | rfl | rfl <;> decide

theorem dr_range (x : Int) : 0 ≤ dr x ∧ dr x ≤ 7 := by
  unfold dr
  split
  · unfold pr; omega
  · omega

theorem df_range {x : Int} (h0 : 0 ≤ x) (h1 : x < 65536) : 0 ≤ df x ∧ df x ≤ 1023 := by
  unfold df
  split
  · unfold pf; omega
  · omega

theorem ew_range (bs : List UInt8) (t page lvl : Int) : 0 ≤ ew bs t page lvl ∧ ew bs t page lvl < 65536 := by
  have := half_lt bs t.toNat (idxOf page lvl).toNat
  unfold ew
  omega

theorem single_cases (bs : List UInt8) (nf : Nat) (root page : Int) : (isP page = false ∧ single bs nf root page = miss 3 0 0 false 0) ∨ (isP page = true ∧ entK bs nf root page 0 ≠ 0 ∧ single bs nf root page = miss (entK bs nf root page 0) 2 0 false page) ∨
    (isP page = true ∧ entK bs nf root page 0 = 0 ∧ entK bs nf (df (ew bs root page 0)) page 1 ≠ 0 ∧ single bs nf root page = miss (entK bs nf (df (ew bs root page 0)) page 1) 2 1 false page) ∨
    (isP page = true ∧ entK bs nf root page 0 = 0 ∧ entK bs nf (df (ew bs root page 0)) page 1 = 0 ∧ single bs nf root page = ⟨df (ew bs (df (ew bs root page 0)) page 1), dr (ew bs (df (ew bs root page 0)) page 1), f0⟩) := by
  unfold single
  cases hp : isP page with
  | false => exact Or.inl ⟨rfl, by simp⟩
  | true =>
    right
    by_cases h1 : entK bs nf root page 0 = 0
    · right
      by_cases h2 : entK bs nf (df (ew bs root page 0)) page 1 = 0
      · right
        exact ⟨rfl, h1, h2, by simp [h1, h2]⟩
      · left
        exact ⟨rfl, h1, h2, by simp [h1, h2]⟩
    · left
      exact ⟨rfl, h1, by simp [h1]⟩

/-- What one table's walk tells lies in range; its fault of no kind is none. -/
theorem single_range (bs : List UInt8) (nf : Nat) (root page : Int) : (0 ≤ (single bs nf root page).fr ∧ (single bs nf root page).fr ≤ 1023) ∧ (0 ≤ (single bs nf root page).ri ∧ (single bs nf root page).ri ≤ 7) ∧ ((single bs nf root page).ft.k = 0 → (single bs nf root page).ft = f0 ∧ isP page = true) := by
  rcases single_cases bs nf root page with ⟨hp, e⟩ | ⟨hp, h1, e⟩ | ⟨hp, h1, h2, e⟩ | ⟨hp, h1, h2, e⟩
  · rw [e]; exact ⟨⟨Int.le_refl 0, by decide⟩, ⟨Int.le_refl 0, by decide⟩, fun h => absurd h (by decide)⟩
  · rw [e]; exact ⟨⟨Int.le_refl 0, (by decide : (0 : Int) ≤ 1023)⟩, ⟨Int.le_refl 0, (by decide : (0 : Int) ≤ 7)⟩, fun h => absurd h h1⟩
  · rw [e]; exact ⟨⟨Int.le_refl 0, (by decide : (0 : Int) ≤ 1023)⟩, ⟨Int.le_refl 0, (by decide : (0 : Int) ≤ 7)⟩, fun h => absurd h h2⟩
  · rw [e]
    have a := ew_range bs (df (ew bs root page 0)) page 1
    exact ⟨df_range a.1 a.2, dr_range _, fun _ => ⟨rfl, hp⟩⟩

theorem granted_cases (bs : List UInt8) (nf : Nat) (root page want : Int) : ((single bs nf root page).ft.k ≠ 0 ∧ granted bs nf root page want = single bs nf root page) ∨
    ((single bs nf root page).ft.k = 0 ∧ bits .and .i64 (single bs nf root page).ri want = 0 ∧ granted bs nf root page want = miss 2 2 1 false page) ∨
    ((single bs nf root page).ft.k = 0 ∧ bits .and .i64 (single bs nf root page).ri want ≠ 0 ∧ granted bs nf root page want = single bs nf root page) := by
  unfold granted
  by_cases h1 : (single bs nf root page).ft.k = 0
  · right
    by_cases h2 : bits .and .i64 (single bs nf root page).ri want = 0
    · left; exact ⟨h1, h2, by rw [if_neg (by simpa using h1), if_pos h2]⟩
    · right; exact ⟨h1, h2, by rw [if_neg (by simpa using h1), if_neg h2]⟩
  · left; exact ⟨h1, by rw [if_pos h1]⟩

/-- Where a wanted right is found, one table's walk says just that, and has it. -/
theorem granted_ok {bs : List UInt8} {nf : Nat} {root page want : Int} (h : (granted bs nf root page want).ft.k = 0) : granted bs nf root page want = single bs nf root page ∧ (single bs nf root page).ft.k = 0 ∧ bits .and .i64 (single bs nf root page).ri want ≠ 0 := by
  rcases granted_cases bs nf root page want with ⟨h1, e⟩ | ⟨h1, h2, e⟩ | ⟨h1, h2, e⟩
  · rw [e] at h; exact absurd h h1
  · rw [e] at h; exact absurd (show (2 : Int) = 0 from h) (by decide)
  · exact ⟨e, h1, h2⟩

theorem granted_f0 {bs : List UInt8} {nf : Nat} {root page want : Int} (h : (granted bs nf root page want).ft.k = 0) : (granted bs nf root page want).ft = f0 := by
  obtain ⟨e, h1, _⟩ := granted_ok h
  rw [e]
  exact ((single_range bs nf root page).2.2 h1).1

theorem lies_cases (bs : List UInt8) (nf : Nat) (second table : Int) : ((granted bs nf second table 1).ft.k ≠ 0 ∧ lies bs nf second table = ⟨0, 0, ⟨(granted bs nf second table 1).ft.k, (granted bs nf second table 1).ft.s, (granted bs nf second table 1).ft.l, true, (granted bs nf second table 1).ft.p⟩⟩) ∨
    ((granted bs nf second table 1).ft.k = 0 ∧ lies bs nf second table = granted bs nf second table 1) := by
  unfold lies
  by_cases h1 : (granted bs nf second table 1).ft.k = 0
  · right; exact ⟨h1, by rw [if_neg (by simpa using h1)]⟩
  · left; exact ⟨h1, by rw [if_pos h1]⟩

theorem guest_cases (bs : List UInt8) (nf : Nat) (second table page lvl : Int) : ((lies bs nf second table).ft.k ≠ 0 ∧ guest bs nf second table page lvl = lies bs nf second table) ∨
    ((lies bs nf second table).ft.k = 0 ∧ entK bs nf (lies bs nf second table).fr page lvl ≠ 0 ∧ guest bs nf second table page lvl = miss (entK bs nf (lies bs nf second table).fr page lvl) 1 lvl false page) ∨
    ((lies bs nf second table).ft.k = 0 ∧ entK bs nf (lies bs nf second table).fr page lvl = 0 ∧ guest bs nf second table page lvl = ⟨df (ew bs (lies bs nf second table).fr page lvl), dr (ew bs (lies bs nf second table).fr page lvl), f0⟩) := by
  unfold guest
  by_cases h1 : (lies bs nf second table).ft.k = 0
  · right
    by_cases h2 : entK bs nf (lies bs nf second table).fr page lvl = 0
    · right; exact ⟨h1, h2, by rw [if_neg (by simpa using h1), if_neg (by simpa using h2)]⟩
    · left; exact ⟨h1, h2, by rw [if_neg (by simpa using h1), if_pos h2]⟩
  · left; exact ⟨h1, by rw [if_pos h1]⟩

theorem lies_zero (bs : List UInt8) (nf : Nat) (second table : Int) (h : (lies bs nf second table).ft.k ≠ 0) : (lies bs nf second table).fr = 0 ∧ (lies bs nf second table).ri = 0 := by
  rcases lies_cases bs nf second table with ⟨_, e⟩ | ⟨h1, e⟩
  · rw [e]; exact ⟨rfl, rfl⟩
  · rw [e] at h; exact absurd h1 h

theorem guest_zero (bs : List UInt8) (nf : Nat) (second table page lvl : Int) (h : (guest bs nf second table page lvl).ft.k ≠ 0) : (guest bs nf second table page lvl).fr = 0 ∧ (guest bs nf second table page lvl).ri = 0 := by
  rcases guest_cases bs nf second table page lvl with ⟨h1, e⟩ | ⟨_, h2, e⟩ | ⟨_, _, e⟩
  · rw [e]; exact lies_zero bs nf second table h1
  · rw [e]; exact ⟨rfl, rfl⟩
  · rw [e] at h; exact absurd rfl h

theorem guest_range {bs : List UInt8} {nf : Nat} {second table page lvl : Int} (h : (guest bs nf second table page lvl).ft.k = 0) : (0 ≤ (guest bs nf second table page lvl).fr ∧ (guest bs nf second table page lvl).fr ≤ 1023) ∧ (0 ≤ (guest bs nf second table page lvl).ri ∧ (guest bs nf second table page lvl).ri ≤ 7) := by
  rcases guest_cases bs nf second table page lvl with ⟨h1, e⟩ | ⟨_, h2, e⟩ | ⟨_, _, e⟩
  · rw [e] at h; exact absurd h h1
  · rw [e] at h; exact absurd h h2
  · rw [e]
    have a := ew_range bs (lies bs nf second table).fr page lvl
    exact ⟨df_range a.1 a.2, dr_range _⟩

end Go.Proofs.YtgnoakidjnilpaaGreat

/- WalkProg -/
namespace Go.Proofs.YtgnoakidjnilpaaGreat
open Go.RowKit

theorem lies_itself (b : Nat) (w : World) : Lies 59 #[] (fun t => ⟨t, 0, f0⟩) b w :=
  ⟨enters_of Tryz.func59 (by kernel_rfl) rfl, fun w1 t _ => itself_any t w1⟩

set_option maxHeartbeats 1000000 in
theorem single_out (w : World) (p : Nat) (root page : Int) (hp : isP page = false) :
    Calls Tryz.prog 20 #[.pointer (some ⟨p, 0, none⟩), .int .i64 root, .int .i64 page] w fun e w' => e = .returned (.tuple #[.int .i64 0, .int .i64 0, .agg #[.int .i64 3, .int .i64 0, .int .i64 0, .bool false, .int .i64 0]]) ∧ Fr none' w w' := by
  have f1 := Fr.refl none' w
  have r8 := row_alloc w #[.int .i64 0, .int .i64 0, .int .i64 0, .bool false, .int .i64 0] 50
  replace f1 := f1.alloc (.cells #[.int .i64 0, .int .i64 0, .int .i64 0, .bool false, .int .i64 0] 50)
  go_enter Tryz.func20, Tryz.ntmps20
  go_wp2_with fail
  refine (isPage_any _ _).mono ?_
  rintro e v1 ⟨rfl, rfl⟩
  rw [hp]
  go_wp2_with fail
  refine (outside_any _).mono ?_
  rintro e v2 ⟨rfl, g2⟩
  replace r8 := r8.keep g2 (fun h => h)
  replace f1 := f1.trans g2
  clear g2
  obtain ⟨c0x0, c0x1, c0x2, c0x3, c0x4⟩ := cells5 r8
  obtain ⟨z1x0, z1x1, z1x2, z1x3, z1x4⟩ := frozen5 r8
  go_wp2_with fail
  refine bodyPost_ret (ret_ttf rfl rfl (r8.put5 _ _ _ _ _) rfl) rfl ?_
  exact ⟨rfl, f1.put5 (Or.inl (Nat.le_refl _)) _ _ _ _ _⟩

set_option maxHeartbeats 400000 in
theorem single_bad0 (w : World) (p bf nf : Nat) (bs : List UInt8) (root page : Int) (h : IsRam w p bf nf bs) (hp : isP page = true) (hk : entK bs nf root page 0 ≠ 0) :
    Calls Tryz.prog 20 #[.pointer (some ⟨p, 0, none⟩), .int .i64 root, .int .i64 page] w fun e w' => e = .returned (.tuple #[.int .i64 0, .int .i64 0, .agg #[.int .i64 (entK bs nf root page 0), .int .i64 2, .int .i64 0, .bool false, .int .i64 page]]) ∧ Fr none' w w' := by
  have f1 := Fr.refl none' w
  have hp0 := h.head.lt
  have hb0 := h.row.lt
  have r8 := row_alloc w #[.int .i64 0, .int .i64 0, .int .i64 0, .bool false, .int .i64 0] 50
  replace h := h.alloc (.cells #[.int .i64 0, .int .i64 0, .int .i64 0, .bool false, .int .i64 0] 50)
  replace f1 := f1.alloc (.cells #[.int .i64 0, .int .i64 0, .int .i64 0, .bool false, .int .i64 0] 50)
  have r9 := row_alloc2 w (.cells #[.int .i64 0, .int .i64 0, .int .i64 0, .bool false, .int .i64 0] 50) #[.pointer (some ⟨p, 0, none⟩), .int .i64 2, .int .i64 0, .int .i64 page] 146
  replace r8 := r8.alloc (.cells #[.pointer (some ⟨p, 0, none⟩), .int .i64 2, .int .i64 0, .int .i64 page] 146)
  replace h := h.alloc (.cells #[.pointer (some ⟨p, 0, none⟩), .int .i64 2, .int .i64 0, .int .i64 page] 146)
  replace f1 := f1.alloc (.cells #[.pointer (some ⟨p, 0, none⟩), .int .i64 2, .int .i64 0, .int .i64 page] 146)
  have hd := desc_a2 _ (w.heap.size + 1) p bf nf bs root 2 0 page 59 #[] (fun t => ⟨t, 0, f0⟩) h r9 (by omega) (by omega) (lies_itself _ _) ⟨root, 0, f0⟩ rfl hp rfl hk
  go_enter Tryz.func20, Tryz.ntmps20
  go_wp2_with fail
  refine (isPage_any _ _).mono ?_
  rintro e v1 ⟨rfl, rfl⟩
  rw [hp]
  go_wp2_with fail
  refine hd.mono ?_
  rintro e v1 ⟨rfl, g1, _⟩
  clear hd
  replace r8 := r8.keep g1 (show _ ≠ _ by omega)
  replace f1 := f1.newerS g1 (by omega)
  have l1 : Hid (w.heap.size < v1.heap.size) := r8.lt
  clear g1 r9 h
  have r10 := row_alloc v1 #[.bool false, .bool false, .int .i64 0, .int .i64 0] 71
  replace r8 := r8.alloc (.cells #[.bool false, .bool false, .int .i64 0, .int .i64 0] 71)
  replace f1 := f1.alloc (.cells #[.bool false, .bool false, .int .i64 0, .int .i64 0] 71)
  obtain ⟨c0x0, c0x1, c0x2, c0x3, c0x4⟩ := cells5 r8
  obtain ⟨z1x0, z1x1, z1x2, z1x3, z1x4⟩ := frozen5 r8
  go_wp2_with fail
  clear c0x0 c0x1 c0x2 c0x3 c0x4 z1x0 z1x1 z1x2 z1x3 z1x4
  have l2 := l1.out
  replace r10 := r10.past5 (b' := w.heap.size) (by omega) (.int .i64 (entK bs nf root page 0)) (.int .i64 2) (.int .i64 0) (.bool false) (.int .i64 page)
  replace r8 := r8.put5 (.int .i64 (entK bs nf root page 0)) (.int .i64 2) (.int .i64 0) (.bool false) (.int .i64 page)
  replace f1 := f1.put5 (b := w.heap.size) (Or.inl (by omega)) (.int .i64 (entK bs nf root page 0)) (.int .i64 2) (.int .i64 0) (.bool false) (.int .i64 page)
  unfold put5 at r8 r10 f1
  clear l1 l2
  generalize hWW1 : ((((((v1.alloc (.cells #[.bool false, .bool false, .int .i64 0, .int .i64 0] 71)).setCell ⟨w.heap.size, 0, none⟩ (.int .i64 (entK bs nf root page 0))).setCell ⟨w.heap.size, 1, none⟩ (.int .i64 2)).setCell ⟨w.heap.size, 2, none⟩ (.int .i64 0)).setCell ⟨w.heap.size, 3, none⟩ (.bool false)).setCell ⟨w.heap.size, 4, none⟩ (.int .i64 page)) = W1 at r8 r10 f1 ⊢
  clear hWW1
  obtain ⟨c2x0, c2x1, c2x2, c2x3, c2x4⟩ := cells5 r8
  obtain ⟨z3x0, z3x1, z3x2, z3x3, z3x4⟩ := frozen5 r8
  obtain ⟨c4x0, c4x1, c4x2, c4x3⟩ := row4 r10
  go_region
  go_wp2_with fail
  refine bodyPost_ret (ret_ttf rfl rfl (r8.put5 _ _ _ _ _).drew rfl) rfl ?_
  exact ⟨rfl, (f1.put5 (Or.inl (Nat.le_refl _)) _ _ _ _ _).drew⟩

set_option maxHeartbeats 400000 in
theorem single_bad1 (w : World) (p bf nf : Nat) (bs : List UInt8) (root page : Int) (h : IsRam w p bf nf bs) (hp : isP page = true) (hk : entK bs nf root page 0 = 0) (hj : entK bs nf (df (ew bs root page 0)) page 1 ≠ 0) :
    Calls Tryz.prog 20 #[.pointer (some ⟨p, 0, none⟩), .int .i64 root, .int .i64 page] w fun e w' => e = .returned (.tuple #[.int .i64 0, .int .i64 0, .agg #[.int .i64 (entK bs nf (df (ew bs root page 0)) page 1), .int .i64 2, .int .i64 1, .bool false, .int .i64 page]]) ∧ Fr none' w w' := by
  have f1 := Fr.refl none' w
  have hp0 := h.head.lt
  have hb0 := h.row.lt
  have r8 := row_alloc w #[.int .i64 0, .int .i64 0, .int .i64 0, .bool false, .int .i64 0] 50
  replace h := h.alloc (.cells #[.int .i64 0, .int .i64 0, .int .i64 0, .bool false, .int .i64 0] 50)
  replace f1 := f1.alloc (.cells #[.int .i64 0, .int .i64 0, .int .i64 0, .bool false, .int .i64 0] 50)
  have r9 := row_alloc2 w (.cells #[.int .i64 0, .int .i64 0, .int .i64 0, .bool false, .int .i64 0] 50) #[.pointer (some ⟨p, 0, none⟩), .int .i64 2, .int .i64 0, .int .i64 page] 146
  replace r8 := r8.alloc (.cells #[.pointer (some ⟨p, 0, none⟩), .int .i64 2, .int .i64 0, .int .i64 page] 146)
  replace h := h.alloc (.cells #[.pointer (some ⟨p, 0, none⟩), .int .i64 2, .int .i64 0, .int .i64 page] 146)
  replace f1 := f1.alloc (.cells #[.pointer (some ⟨p, 0, none⟩), .int .i64 2, .int .i64 0, .int .i64 page] 146)
  have hd := desc_b2 _ (w.heap.size + 1) p bf nf bs root 2 0 page 59 #[] (fun t => ⟨t, 0, f0⟩) h r9 (by omega) (by omega) (lies_itself _ _) ⟨root, 0, f0⟩ rfl hp rfl hk ⟨(df (ew bs root page 0)), 0, f0⟩ rfl rfl hj
  go_enter Tryz.func20, Tryz.ntmps20
  go_wp2_with fail
  refine (isPage_any _ _).mono ?_
  rintro e v1 ⟨rfl, rfl⟩
  rw [hp]
  go_wp2_with fail
  refine hd.mono ?_
  rintro e v1 ⟨rfl, g1, _⟩
  clear hd
  replace r8 := r8.keep g1 (show _ ≠ _ by omega)
  replace f1 := f1.newerS g1 (by omega)
  have l1 : Hid (w.heap.size < v1.heap.size) := r8.lt
  clear g1 r9 h
  have r10 := row_alloc v1 #[.bool false, .bool false, .int .i64 0, .int .i64 0] 71
  replace r8 := r8.alloc (.cells #[.bool false, .bool false, .int .i64 0, .int .i64 0] 71)
  replace f1 := f1.alloc (.cells #[.bool false, .bool false, .int .i64 0, .int .i64 0] 71)
  obtain ⟨c0x0, c0x1, c0x2, c0x3, c0x4⟩ := cells5 r8
  obtain ⟨z1x0, z1x1, z1x2, z1x3, z1x4⟩ := frozen5 r8
  go_wp2_with fail
  clear c0x0 c0x1 c0x2 c0x3 c0x4 z1x0 z1x1 z1x2 z1x3 z1x4
  have l2 := l1.out
  replace r10 := r10.past5 (b' := w.heap.size) (by omega) (.int .i64 (entK bs nf (df (ew bs root page 0)) page 1)) (.int .i64 2) (.int .i64 1) (.bool false) (.int .i64 page)
  replace r8 := r8.put5 (.int .i64 (entK bs nf (df (ew bs root page 0)) page 1)) (.int .i64 2) (.int .i64 1) (.bool false) (.int .i64 page)
  replace f1 := f1.put5 (b := w.heap.size) (Or.inl (by omega)) (.int .i64 (entK bs nf (df (ew bs root page 0)) page 1)) (.int .i64 2) (.int .i64 1) (.bool false) (.int .i64 page)
  unfold put5 at r8 r10 f1
  clear l1 l2
  generalize hWW1 : ((((((v1.alloc (.cells #[.bool false, .bool false, .int .i64 0, .int .i64 0] 71)).setCell ⟨w.heap.size, 0, none⟩ (.int .i64 (entK bs nf (df (ew bs root page 0)) page 1))).setCell ⟨w.heap.size, 1, none⟩ (.int .i64 2)).setCell ⟨w.heap.size, 2, none⟩ (.int .i64 1)).setCell ⟨w.heap.size, 3, none⟩ (.bool false)).setCell ⟨w.heap.size, 4, none⟩ (.int .i64 page)) = W1 at r8 r10 f1 ⊢
  clear hWW1
  obtain ⟨c2x0, c2x1, c2x2, c2x3, c2x4⟩ := cells5 r8
  obtain ⟨z3x0, z3x1, z3x2, z3x3, z3x4⟩ := frozen5 r8
  obtain ⟨c4x0, c4x1, c4x2, c4x3⟩ := row4 r10
  go_region
  go_wp2_with fail
  refine bodyPost_ret (ret_ttf rfl rfl (r8.put5 _ _ _ _ _).drew rfl) rfl ?_
  exact ⟨rfl, (f1.put5 (Or.inl (Nat.le_refl _)) _ _ _ _ _).drew⟩

set_option maxHeartbeats 400000 in
theorem single_ok (w : World) (p bf nf : Nat) (bs : List UInt8) (root page : Int) (h : IsRam w p bf nf bs) (hp : isP page = true) (hk : entK bs nf root page 0 = 0) (hj : entK bs nf (df (ew bs root page 0)) page 1 = 0) :
    Calls Tryz.prog 20 #[.pointer (some ⟨p, 0, none⟩), .int .i64 root, .int .i64 page] w fun e w' => e = .returned (.tuple #[.int .i64 (df (ew bs (df (ew bs root page 0)) page 1)), .int .i64 (dr (ew bs (df (ew bs root page 0)) page 1)), .agg #[.int .i64 0, .int .i64 0, .int .i64 0, .bool false, .int .i64 0]]) ∧ Fr none' w w' := by
  have f1 := Fr.refl none' w
  have hp0 := h.head.lt
  have hb0 := h.row.lt
  have r8 := row_alloc w #[.int .i64 0, .int .i64 0, .int .i64 0, .bool false, .int .i64 0] 50
  replace h := h.alloc (.cells #[.int .i64 0, .int .i64 0, .int .i64 0, .bool false, .int .i64 0] 50)
  replace f1 := f1.alloc (.cells #[.int .i64 0, .int .i64 0, .int .i64 0, .bool false, .int .i64 0] 50)
  have r9 := row_alloc2 w (.cells #[.int .i64 0, .int .i64 0, .int .i64 0, .bool false, .int .i64 0] 50) #[.pointer (some ⟨p, 0, none⟩), .int .i64 2, .int .i64 0, .int .i64 page] 146
  replace r8 := r8.alloc (.cells #[.pointer (some ⟨p, 0, none⟩), .int .i64 2, .int .i64 0, .int .i64 page] 146)
  replace h := h.alloc (.cells #[.pointer (some ⟨p, 0, none⟩), .int .i64 2, .int .i64 0, .int .i64 page] 146)
  replace f1 := f1.alloc (.cells #[.pointer (some ⟨p, 0, none⟩), .int .i64 2, .int .i64 0, .int .i64 page] 146)
  have hd := desc_c _ (w.heap.size + 1) p bf nf bs root 2 0 page 59 #[] (fun t => ⟨t, 0, f0⟩) h r9 (by omega) (by omega) (lies_itself _ _) ⟨root, 0, f0⟩ rfl hp rfl hk ⟨(df (ew bs root page 0)), 0, f0⟩ rfl rfl hj
  go_enter Tryz.func20, Tryz.ntmps20
  go_wp2_with fail
  refine (isPage_any _ _).mono ?_
  rintro e v1 ⟨rfl, rfl⟩
  rw [hp]
  go_wp2_with fail
  refine hd.mono ?_
  rintro e v1 ⟨rfl, g1, _⟩
  clear hd
  replace r8 := r8.keep g1 (show _ ≠ _ by omega)
  replace f1 := f1.newerS g1 (by omega)
  have l1 : Hid (w.heap.size < v1.heap.size) := r8.lt
  clear g1 r9 h
  have r10 := row_alloc v1 #[.bool true, .bool true, .int .i64 (dr (ew bs (df (ew bs root page 0)) page 1)), .int .i64 (df (ew bs (df (ew bs root page 0)) page 1))] 71
  replace r8 := r8.alloc (.cells #[.bool true, .bool true, .int .i64 (dr (ew bs (df (ew bs root page 0)) page 1)), .int .i64 (df (ew bs (df (ew bs root page 0)) page 1))] 71)
  replace f1 := f1.alloc (.cells #[.bool true, .bool true, .int .i64 (dr (ew bs (df (ew bs root page 0)) page 1)), .int .i64 (df (ew bs (df (ew bs root page 0)) page 1))] 71)
  obtain ⟨c0x0, c0x1, c0x2, c0x3, c0x4⟩ := cells5 r8
  obtain ⟨z1x0, z1x1, z1x2, z1x3, z1x4⟩ := frozen5 r8
  go_wp2_with fail
  clear c0x0 c0x1 c0x2 c0x3 c0x4 z1x0 z1x1 z1x2 z1x3 z1x4
  have l2 := l1.out
  replace r10 := r10.past5 (b' := w.heap.size) (by omega) (.int .i64 0) (.int .i64 0) (.int .i64 0) (.bool false) (.int .i64 0)
  replace r8 := r8.put5 (.int .i64 0) (.int .i64 0) (.int .i64 0) (.bool false) (.int .i64 0)
  replace f1 := f1.put5 (b := w.heap.size) (Or.inl (by omega)) (.int .i64 0) (.int .i64 0) (.int .i64 0) (.bool false) (.int .i64 0)
  unfold put5 at r8 r10 f1
  clear l1 l2
  generalize hWW1 : ((((((v1.alloc (.cells #[.bool true, .bool true, .int .i64 (dr (ew bs (df (ew bs root page 0)) page 1)), .int .i64 (df (ew bs (df (ew bs root page 0)) page 1))] 71)).setCell ⟨w.heap.size, 0, none⟩ (.int .i64 0)).setCell ⟨w.heap.size, 1, none⟩ (.int .i64 0)).setCell ⟨w.heap.size, 2, none⟩ (.int .i64 0)).setCell ⟨w.heap.size, 3, none⟩ (.bool false)).setCell ⟨w.heap.size, 4, none⟩ (.int .i64 0)) = W1 at r8 r10 f1 ⊢
  clear hWW1
  obtain ⟨c2x0, c2x1, c2x2, c2x3, c2x4⟩ := cells5 r8
  obtain ⟨z3x0, z3x1, z3x2, z3x3, z3x4⟩ := frozen5 r8
  obtain ⟨c4x0, c4x1, c4x2, c4x3⟩ := row4 r10
  go_region
  go_wp2_with fail
  refine bodyPost_ret (ret_ttf rfl rfl (r8.put5 _ _ _ _ _).drew rfl) rfl ?_
  exact ⟨rfl, (f1.put5 (Or.inl (Nat.le_refl _)) _ _ _ _ _).drew⟩

theorem single_any (w : World) (p bf nf : Nat) (bs : List UInt8) (root page : Int) (h : IsRam w p bf nf bs) :
    Calls Tryz.prog 20 #[.pointer (some ⟨p, 0, none⟩), .int .i64 root, .int .i64 page] w fun e w' => e = .returned (.tuple #[.int .i64 (single bs nf root page).fr, .int .i64 (single bs nf root page).ri, .agg #[.int .i64 (single bs nf root page).ft.k, .int .i64 (single bs nf root page).ft.s, .int .i64 (single bs nf root page).ft.l, .bool (single bs nf root page).ft.wk, .int .i64 (single bs nf root page).ft.p]]) ∧ Fr none' w w' := by
  rcases single_cases bs nf root page with ⟨hp, e⟩ | ⟨hp, h1, e⟩ | ⟨hp, h1, h2, e⟩ | ⟨hp, h1, h2, e⟩
  · rw [e]; exact single_out w p root page hp
  · rw [e]; exact single_bad0 w p bf nf bs root page h hp h1
  · rw [e]; exact single_bad1 w p bf nf bs root page h hp h1 h2
  · rw [e]; exact single_ok w p bf nf bs root page h hp h1 h2

set_option maxHeartbeats 400000 in
theorem granted_bad (w : World) (p bf nf : Nat) (bs : List UInt8) (root page want : Int) (h : IsRam w p bf nf bs) (x : Res) (hx : single bs nf root page = x) (hk : x.ft.k ≠ 0) :
    Calls Tryz.prog 189 #[.pointer (some ⟨p, 0, none⟩), .int .i64 root, .int .i64 page, .int .i64 want] w fun e w' => e = .returned (.tuple #[.int .i64 x.fr, .int .i64 x.ri, .agg #[.int .i64 x.ft.k, .int .i64 x.ft.s, .int .i64 x.ft.l, .bool x.ft.wk, .int .i64 x.ft.p]]) ∧ Fr none' w w' := by
  have f1 := Fr.refl none' w
  have t2 : (x.ft.k == 0) = false := by simp [hk]
  clear hk
  have hs := fun w0 h0 => single_any w0 p bf nf bs root page h0
  rw [hx] at hs
  clear hx
  have r10 := row_alloc w #[.int .i64 0, .int .i64 0, .int .i64 0, .bool false, .int .i64 0] 50
  replace h := h.alloc (.cells #[.int .i64 0, .int .i64 0, .int .i64 0, .bool false, .int .i64 0] 50)
  replace f1 := f1.alloc (.cells #[.int .i64 0, .int .i64 0, .int .i64 0, .bool false, .int .i64 0] 50)
  go_enter Tryz.func189, Tryz.ntmps189
  go_wp2_with fail
  refine (hs _ h).mono ?_
  rintro e v1 ⟨rfl, g1⟩
  replace r10 := r10.keep g1 (fun h => h)
  replace h := h.keep g1 (fun h => h) (fun h => h)
  replace f1 := f1.trans g1
  clear g1
  clear h
  obtain ⟨c0x0, c0x1, c0x2, c0x3, c0x4⟩ := cells5 r10
  obtain ⟨z1x0, z1x1, z1x2, z1x3, z1x4⟩ := frozen5 r10
  have q10 := r10
  replace r10 := r10.put5 (.int .i64 x.ft.k) (.int .i64 x.ft.s) (.int .i64 x.ft.l) (.bool x.ft.wk) (.int .i64 x.ft.p)
  replace f1 := f1.put5 (b := w.heap.size) (Or.inl (by omega)) (.int .i64 x.ft.k) (.int .i64 x.ft.s) (.int .i64 x.ft.l) (.bool x.ft.wk) (.int .i64 x.ft.p)
  unfold put5 at r10 f1
  obtain ⟨c2x0, c2x1, c2x2, c2x3, c2x4⟩ := cells5 r10
  go_wp2_with fail
  refine (none_any x.ft _).mono ?_
  rintro e v2 ⟨rfl, g2⟩
  clear c0x0 c0x1 c0x2 c0x3 c0x4 z1x0 z1x1 z1x2 z1x3 z1x4 q10 c2x0 c2x1 c2x2 c2x3 c2x4
  rw [t2]
  replace r10 := r10.keep g2 (fun h => h)
  replace f1 := f1.trans g2
  clear g2
  obtain ⟨c3x0, c3x1, c3x2, c3x3, c3x4⟩ := cells5 r10
  obtain ⟨z4x0, z4x1, z4x2, z4x3, z4x4⟩ := frozen5 r10
  go_wp2_with fail
  go_region
  go_wp2_with fail
  refine bodyPost_ret (ret_ttf rfl rfl (r10.put5 _ _ _ _ _).drew rfl) rfl ?_
  exact ⟨rfl, (f1.put5 (Or.inl (Nat.le_refl _)) _ _ _ _ _).drew⟩

set_option maxHeartbeats 400000 in
theorem granted_no (w : World) (p bf nf : Nat) (bs : List UInt8) (root page want : Int) (h : IsRam w p bf nf bs) (x : Res) (hx : single bs nf root page = x) (hk : x.ft.k = 0) (hb : bits .and .i64 x.ri want = 0) :
    Calls Tryz.prog 189 #[.pointer (some ⟨p, 0, none⟩), .int .i64 root, .int .i64 page, .int .i64 want] w fun e w' => e = .returned (.tuple #[.int .i64 0, .int .i64 0, .agg #[.int .i64 2, .int .i64 2, .int .i64 1, .bool false, .int .i64 page]]) ∧ Fr none' w w' := by
  have f1 := Fr.refl none' w
  have t2 : (x.ft.k == 0) = true := by simp [hk]
  have t3 : (bits .and .i64 x.ri want == 0) = true := by simp [hb]
  clear hk hb
  have hs := fun w0 h0 => single_any w0 p bf nf bs root page h0
  rw [hx] at hs
  clear hx
  have r10 := row_alloc w #[.int .i64 0, .int .i64 0, .int .i64 0, .bool false, .int .i64 0] 50
  replace h := h.alloc (.cells #[.int .i64 0, .int .i64 0, .int .i64 0, .bool false, .int .i64 0] 50)
  replace f1 := f1.alloc (.cells #[.int .i64 0, .int .i64 0, .int .i64 0, .bool false, .int .i64 0] 50)
  go_enter Tryz.func189, Tryz.ntmps189
  go_wp2_with fail
  refine (hs _ h).mono ?_
  rintro e v1 ⟨rfl, g1⟩
  replace r10 := r10.keep g1 (fun h => h)
  replace h := h.keep g1 (fun h => h) (fun h => h)
  replace f1 := f1.trans g1
  clear g1
  clear h
  obtain ⟨c0x0, c0x1, c0x2, c0x3, c0x4⟩ := cells5 r10
  obtain ⟨z1x0, z1x1, z1x2, z1x3, z1x4⟩ := frozen5 r10
  have q10 := r10
  replace r10 := r10.put5 (.int .i64 x.ft.k) (.int .i64 x.ft.s) (.int .i64 x.ft.l) (.bool x.ft.wk) (.int .i64 x.ft.p)
  replace f1 := f1.put5 (b := w.heap.size) (Or.inl (by omega)) (.int .i64 x.ft.k) (.int .i64 x.ft.s) (.int .i64 x.ft.l) (.bool x.ft.wk) (.int .i64 x.ft.p)
  unfold put5 at r10 f1
  obtain ⟨c2x0, c2x1, c2x2, c2x3, c2x4⟩ := cells5 r10
  go_wp2_with fail
  refine (none_any x.ft _).mono ?_
  rintro e v2 ⟨rfl, g2⟩
  clear c0x0 c0x1 c0x2 c0x3 c0x4 z1x0 z1x1 z1x2 z1x3 z1x4 q10 c2x0 c2x1 c2x2 c2x3 c2x4
  rw [t2]
  replace r10 := r10.keep g2 (fun h => h)
  replace f1 := f1.trans g2
  clear g2
  obtain ⟨c3x0, c3x1, c3x2, c3x3, c3x4⟩ := cells5 r10
  obtain ⟨z4x0, z4x1, z4x2, z4x3, z4x4⟩ := frozen5 r10
  go_wp2_with fail
  refine bodyPost_ret (ret_ttf rfl rfl (r10.put5 _ _ _ _ _) rfl) rfl ?_
  exact ⟨rfl, f1.put5 (Or.inl (Nat.le_refl _)) _ _ _ _ _⟩

set_option maxHeartbeats 400000 in
theorem granted_yes (w : World) (p bf nf : Nat) (bs : List UInt8) (root page want : Int) (h : IsRam w p bf nf bs) (x : Res) (hx : single bs nf root page = x) (hk : x.ft.k = 0) (hb : bits .and .i64 x.ri want ≠ 0) :
    Calls Tryz.prog 189 #[.pointer (some ⟨p, 0, none⟩), .int .i64 root, .int .i64 page, .int .i64 want] w fun e w' => e = .returned (.tuple #[.int .i64 x.fr, .int .i64 x.ri, .agg #[.int .i64 x.ft.k, .int .i64 x.ft.s, .int .i64 x.ft.l, .bool x.ft.wk, .int .i64 x.ft.p]]) ∧ Fr none' w w' := by
  have f1 := Fr.refl none' w
  have t2 : (x.ft.k == 0) = true := by simp [hk]
  have t3 : (bits .and .i64 x.ri want == 0) = false := by simp [hb]
  clear hk hb
  have hs := fun w0 h0 => single_any w0 p bf nf bs root page h0
  rw [hx] at hs
  clear hx
  have r10 := row_alloc w #[.int .i64 0, .int .i64 0, .int .i64 0, .bool false, .int .i64 0] 50
  replace h := h.alloc (.cells #[.int .i64 0, .int .i64 0, .int .i64 0, .bool false, .int .i64 0] 50)
  replace f1 := f1.alloc (.cells #[.int .i64 0, .int .i64 0, .int .i64 0, .bool false, .int .i64 0] 50)
  go_enter Tryz.func189, Tryz.ntmps189
  go_wp2_with fail
  refine (hs _ h).mono ?_
  rintro e v1 ⟨rfl, g1⟩
  replace r10 := r10.keep g1 (fun h => h)
  replace h := h.keep g1 (fun h => h) (fun h => h)
  replace f1 := f1.trans g1
  clear g1
  clear h
  obtain ⟨c0x0, c0x1, c0x2, c0x3, c0x4⟩ := cells5 r10
  obtain ⟨z1x0, z1x1, z1x2, z1x3, z1x4⟩ := frozen5 r10
  have q10 := r10
  replace r10 := r10.put5 (.int .i64 x.ft.k) (.int .i64 x.ft.s) (.int .i64 x.ft.l) (.bool x.ft.wk) (.int .i64 x.ft.p)
  replace f1 := f1.put5 (b := w.heap.size) (Or.inl (by omega)) (.int .i64 x.ft.k) (.int .i64 x.ft.s) (.int .i64 x.ft.l) (.bool x.ft.wk) (.int .i64 x.ft.p)
  unfold put5 at r10 f1
  obtain ⟨c2x0, c2x1, c2x2, c2x3, c2x4⟩ := cells5 r10
  go_wp2_with fail
  refine (none_any x.ft _).mono ?_
  rintro e v2 ⟨rfl, g2⟩
  clear c0x0 c0x1 c0x2 c0x3 c0x4 z1x0 z1x1 z1x2 z1x3 z1x4 q10 c2x0 c2x1 c2x2 c2x3 c2x4
  rw [t2]
  replace r10 := r10.keep g2 (fun h => h)
  replace f1 := f1.trans g2
  clear g2
  obtain ⟨c3x0, c3x1, c3x2, c3x3, c3x4⟩ := cells5 r10
  obtain ⟨z4x0, z4x1, z4x2, z4x3, z4x4⟩ := frozen5 r10
  go_wp2_with fail
  go_region
  go_wp2_with fail
  refine bodyPost_ret (ret_ttf rfl rfl (r10.put5 _ _ _ _ _).drew rfl) rfl ?_
  exact ⟨rfl, (f1.put5 (Or.inl (Nat.le_refl _)) _ _ _ _ _).drew⟩

theorem granted_any (w : World) (p bf nf : Nat) (bs : List UInt8) (root page want : Int) (h : IsRam w p bf nf bs) :
    Calls Tryz.prog 189 #[.pointer (some ⟨p, 0, none⟩), .int .i64 root, .int .i64 page, .int .i64 want] w fun e w' => e = .returned (.tuple #[.int .i64 (granted bs nf root page want).fr, .int .i64 (granted bs nf root page want).ri, .agg #[.int .i64 (granted bs nf root page want).ft.k, .int .i64 (granted bs nf root page want).ft.s, .int .i64 (granted bs nf root page want).ft.l, .bool (granted bs nf root page want).ft.wk, .int .i64 (granted bs nf root page want).ft.p]]) ∧ Fr none' w w' := by
  rcases granted_cases bs nf root page want with ⟨h1, e⟩ | ⟨h1, h2, e⟩ | ⟨h1, h2, e⟩
  · rw [e]; exact granted_bad w p bf nf bs root page want h _ rfl h1
  · rw [e]; exact granted_no w p bf nf bs root page want h _ rfl h1 h2
  · rw [e]; exact granted_yes w p bf nf bs root page want h _ rfl h1 h2

end Go.Proofs.YtgnoakidjnilpaaGreat

/- WalkNest -/
namespace Go.Proofs.YtgnoakidjnilpaaGreat
open Go.RowKit

theorem row_alloc4 (w : World) (o o' o'' : Obj) (cs : Array Value) (t : TypeId) : Row ((((w.alloc o).alloc o').alloc o'').alloc (.cells cs t)) (w.heap.size + 1 + 1 + 1) cs t := by
  have := row_alloc3 (w.alloc o) o' o'' cs t
  rwa [size_alloc] at this

set_option maxHeartbeats 1000000 in
theorem clo_bad (w : World) (p bf nf g1 g2 : Nat) (bs : List UInt8) (vm sd first second t : Int) (h : IsRam w p bf nf bs) (r1 : Row w g1 #[.pointer (some ⟨p, 0, none⟩)] 33) (r2 : Row w g2 #[.int .i64 vm, .int .i64 sd, .int .i64 first, .int .i64 second] 63) (x : Res) (hx : granted bs nf second t 1 = x) (hk : x.ft.k ≠ 0) :
    Calls Tryz.prog 190 #[.int .i64 t, .pointer (some ⟨g1, 0, none⟩), .pointer (some ⟨g2, 0, none⟩)] w fun e w' => e = .returned (.tuple #[.int .i64 x.fr, .agg #[.int .i64 x.ft.k, .int .i64 x.ft.s, .int .i64 x.ft.l, .bool true, .int .i64 x.ft.p]]) ∧ Fr none' w w' := by
  have f1 := Fr.refl none' w
  have t2 : (x.ft.k == 0) = false := by simp [hk]
  have hs := fun w0 h0 => granted_any w0 p bf nf bs second t 1 h0
  rw [hx] at hs
  clear hx hk
  have r5 := row_alloc w #[.int .i64 0, .int .i64 0, .int .i64 0, .bool false, .int .i64 0] 50
  replace r1 := r1.alloc (.cells #[.int .i64 0, .int .i64 0, .int .i64 0, .bool false, .int .i64 0] 50)
  replace r2 := r2.alloc (.cells #[.int .i64 0, .int .i64 0, .int .i64 0, .bool false, .int .i64 0] 50)
  replace h := h.alloc (.cells #[.int .i64 0, .int .i64 0, .int .i64 0, .bool false, .int .i64 0] 50)
  replace f1 := f1.alloc (.cells #[.int .i64 0, .int .i64 0, .int .i64 0, .bool false, .int .i64 0] 50)
  have d0 := r1.cell 0
  obtain ⟨c1x0, c1x1, c1x2, c1x3⟩ := row4 r2
  go_enter Tryz.func190, Tryz.ntmps190
  go_wp2_with fail
  refine (hs _ h).mono ?_
  rintro e v1 ⟨rfl, g1⟩
  clear d0 c1x0 c1x1 c1x2 c1x3
  replace r1 := r1.keep g1 (fun h => h)
  replace r2 := r2.keep g1 (fun h => h)
  replace r5 := r5.keep g1 (fun h => h)
  replace h := h.keep g1 (fun h => h) (fun h => h)
  replace f1 := f1.trans g1
  clear g1
  clear h r1 r2
  have l1 : Hid (w.heap.size < v1.heap.size) := r5.lt
  have r8 := row_alloc v1 #[.int .i64 x.ft.k, .int .i64 x.ft.s, .int .i64 x.ft.l, .bool x.ft.wk, .int .i64 x.ft.p] 50
  replace r5 := r5.alloc (.cells #[.int .i64 x.ft.k, .int .i64 x.ft.s, .int .i64 x.ft.l, .bool x.ft.wk, .int .i64 x.ft.p] 50)
  replace f1 := f1.alloc (.cells #[.int .i64 x.ft.k, .int .i64 x.ft.s, .int .i64 x.ft.l, .bool x.ft.wk, .int .i64 x.ft.p] 50)
  obtain ⟨c2x0, c2x1, c2x2, c2x3, c2x4⟩ := cells5 r8
  go_wp2_with fail
  refine (none_any x.ft _).mono ?_
  rintro e v2 ⟨rfl, g2⟩
  clear c2x0 c2x1 c2x2 c2x3 c2x4
  rw [t2]
  replace r5 := r5.keep g2 (fun h => h)
  replace r8 := r8.keep g2 (fun h => h)
  replace f1 := f1.trans g2
  clear g2
  obtain ⟨c3x0, c3x1, c3x2, c3x3, c3x4⟩ := cells5 r8
  obtain ⟨z4x0, z4x1, z4x2, z4x3, z4x4⟩ := frozen5 r8
  go_wp2_with fail
  clear c3x0 c3x1 c3x2 c3x3 c3x4 z4x0 z4x1 z4x2 z4x3 z4x4
  have l2 := l1.out
  replace r5 := r5.setCell_other (p := ⟨v1.heap.size, 3, none⟩) (show v1.heap.size ≠ _ by omega) (.bool true)
  replace r8 : Row _ _ #[.int .i64 x.ft.k, .int .i64 x.ft.s, .int .i64 x.ft.l, .bool true, .int .i64 x.ft.p] _ := r8.setCell 3 (.bool true)
  replace f1 := f1.setCell (p := ⟨v1.heap.size, 3, none⟩) (Or.inl (by show w.heap.size ≤ v1.heap.size; omega)) (.bool true)
  generalize hWW1 : (v2.setCell ⟨v1.heap.size, 3, none⟩ (.bool true)) = W1 at r5 r8 f1 ⊢
  clear hWW1
  clear l1 l2
  obtain ⟨c5x0, c5x1, c5x2, c5x3, c5x4⟩ := cells5 r8
  obtain ⟨c6x0, c6x1, c6x2, c6x3, c6x4⟩ := cells5 r5
  obtain ⟨z7x0, z7x1, z7x2, z7x3, z7x4⟩ := frozen5 r5
  go_region
  go_wp2_with fail
  refine bodyPost_ret (ret_tf rfl rfl (r5.put5 _ _ _ _ _).drew rfl) rfl ?_
  exact ⟨rfl, (f1.put5 (Or.inl (Nat.le_refl _)) _ _ _ _ _).drew⟩

set_option maxHeartbeats 1000000 in
theorem clo_ok (w : World) (p bf nf g1 g2 : Nat) (bs : List UInt8) (vm sd first second t : Int) (h : IsRam w p bf nf bs) (r1 : Row w g1 #[.pointer (some ⟨p, 0, none⟩)] 33) (r2 : Row w g2 #[.int .i64 vm, .int .i64 sd, .int .i64 first, .int .i64 second] 63) (x : Res) (hx : granted bs nf second t 1 = x) (hk : x.ft.k = 0) :
    Calls Tryz.prog 190 #[.int .i64 t, .pointer (some ⟨g1, 0, none⟩), .pointer (some ⟨g2, 0, none⟩)] w fun e w' => e = .returned (.tuple #[.int .i64 x.fr, .agg #[.int .i64 x.ft.k, .int .i64 x.ft.s, .int .i64 x.ft.l, .bool false, .int .i64 x.ft.p]]) ∧ Fr none' w w' := by
  have f1 := Fr.refl none' w
  have t2 : (x.ft.k == 0) = true := by simp [hk]
  have hs := fun w0 h0 => granted_any w0 p bf nf bs second t 1 h0
  rw [hx] at hs
  clear hx hk
  have r5 := row_alloc w #[.int .i64 0, .int .i64 0, .int .i64 0, .bool false, .int .i64 0] 50
  replace r1 := r1.alloc (.cells #[.int .i64 0, .int .i64 0, .int .i64 0, .bool false, .int .i64 0] 50)
  replace r2 := r2.alloc (.cells #[.int .i64 0, .int .i64 0, .int .i64 0, .bool false, .int .i64 0] 50)
  replace h := h.alloc (.cells #[.int .i64 0, .int .i64 0, .int .i64 0, .bool false, .int .i64 0] 50)
  replace f1 := f1.alloc (.cells #[.int .i64 0, .int .i64 0, .int .i64 0, .bool false, .int .i64 0] 50)
  have d0 := r1.cell 0
  obtain ⟨c1x0, c1x1, c1x2, c1x3⟩ := row4 r2
  go_enter Tryz.func190, Tryz.ntmps190
  go_wp2_with fail
  refine (hs _ h).mono ?_
  rintro e v1 ⟨rfl, g1⟩
  clear d0 c1x0 c1x1 c1x2 c1x3
  replace r1 := r1.keep g1 (fun h => h)
  replace r2 := r2.keep g1 (fun h => h)
  replace r5 := r5.keep g1 (fun h => h)
  replace h := h.keep g1 (fun h => h) (fun h => h)
  replace f1 := f1.trans g1
  clear g1
  clear h r1 r2
  have l1 : Hid (w.heap.size < v1.heap.size) := r5.lt
  have r8 := row_alloc v1 #[.int .i64 x.ft.k, .int .i64 x.ft.s, .int .i64 x.ft.l, .bool x.ft.wk, .int .i64 x.ft.p] 50
  replace r5 := r5.alloc (.cells #[.int .i64 x.ft.k, .int .i64 x.ft.s, .int .i64 x.ft.l, .bool x.ft.wk, .int .i64 x.ft.p] 50)
  replace f1 := f1.alloc (.cells #[.int .i64 x.ft.k, .int .i64 x.ft.s, .int .i64 x.ft.l, .bool x.ft.wk, .int .i64 x.ft.p] 50)
  obtain ⟨c2x0, c2x1, c2x2, c2x3, c2x4⟩ := cells5 r8
  go_wp2_with fail
  refine (none_any x.ft _).mono ?_
  rintro e v2 ⟨rfl, g2⟩
  clear c2x0 c2x1 c2x2 c2x3 c2x4
  rw [t2]
  replace r5 := r5.keep g2 (fun h => h)
  replace r8 := r8.keep g2 (fun h => h)
  replace f1 := f1.trans g2
  clear g2
  obtain ⟨c3x0, c3x1, c3x2, c3x3, c3x4⟩ := cells5 r8
  obtain ⟨z4x0, z4x1, z4x2, z4x3, z4x4⟩ := frozen5 r8
  go_wp2_with fail
  clear c3x0 c3x1 c3x2 c3x3 c3x4 z4x0 z4x1 z4x2 z4x3 z4x4
  have l2 := l1.out
  replace r5 := r5.setCell_other (p := ⟨v1.heap.size, 3, none⟩) (show v1.heap.size ≠ _ by omega) (.bool false)
  replace r8 : Row _ _ #[.int .i64 x.ft.k, .int .i64 x.ft.s, .int .i64 x.ft.l, .bool false, .int .i64 x.ft.p] _ := r8.setCell 3 (.bool false)
  replace f1 := f1.setCell (p := ⟨v1.heap.size, 3, none⟩) (Or.inl (by show w.heap.size ≤ v1.heap.size; omega)) (.bool false)
  generalize hWW1 : (v2.setCell ⟨v1.heap.size, 3, none⟩ (.bool false)) = W1 at r5 r8 f1 ⊢
  clear hWW1
  clear l1 l2
  obtain ⟨c5x0, c5x1, c5x2, c5x3, c5x4⟩ := cells5 r8
  obtain ⟨c6x0, c6x1, c6x2, c6x3, c6x4⟩ := cells5 r5
  obtain ⟨z7x0, z7x1, z7x2, z7x3, z7x4⟩ := frozen5 r5
  go_region
  go_wp2_with fail
  refine bodyPost_ret (ret_tf rfl rfl (r5.put5 _ _ _ _ _).drew rfl) rfl ?_
  exact ⟨rfl, (f1.put5 (Or.inl (Nat.le_refl _)) _ _ _ _ _).drew⟩

theorem lies_guest (w : World) (b p bf nf g1 g2 : Nat) (bs : List UInt8) (vm sd first second : Int) (h : IsRam w p bf nf bs) (r1 : Row w g1 #[.pointer (some ⟨p, 0, none⟩)] 33) (r2 : Row w g2 #[.int .i64 vm, .int .i64 sd, .int .i64 first, .int .i64 second] 63) (n1 : p ≠ b) (n2 : bf ≠ b) (n3 : g1 ≠ b) (n4 : g2 ≠ b) :
    Lies 190 #[.pointer (some ⟨g1, 0, none⟩), .pointer (some ⟨g2, 0, none⟩)] (lies bs nf second) b w := by
  refine ⟨enters_of Tryz.func190 (by kernel_rfl) rfl, fun w1 t f1 => ?_⟩
  rcases lies_cases bs nf second t with ⟨hk, e⟩ | ⟨hk, e⟩
  · rw [e]
    have z := (granted_zero bs nf second t 1 hk).1
    have hc := clo_bad w1 p bf nf g1 g2 bs vm sd first second t (h.keep f1 n1 n2) (r1.keep f1 n3) (r2.keep f1 n4) (granted bs nf second t 1) rfl hk
    rw [z] at hc
    exact hc
  · rw [e]
    have z := granted_f0 hk
    have hc := clo_ok w1 p bf nf g1 g2 bs vm sd first second t (h.keep f1 n1 n2) (r1.keep f1 n3) (r2.keep f1 n4) (granted bs nf second t 1) rfl hk
    have z' : (granted bs nf second t 1).ft.wk = false := by rw [z]; rfl
    rw [← z'] at hc
    exact hc

theorem ndesc_no0 (w : World) (b p bf nf : Nat) (bs : List UInt8) (first second page : Int) (fn : Nat) (caps : Array Value) (h : IsRam w p bf nf bs) (hS : IsState w b p 1 0 page) (hbp : p ≠ b) (hbf : bf ≠ b) (hg : Lies fn caps (lies bs nf second) b w) (hp : isP page = true) (hk : (guest bs nf second first page 0).ft.k ≠ 0) :
    Calls Tryz.prog 58 #[.pointer (some ⟨b, 0, none⟩), .int .i64 first, .func (.func fn) #[] caps] w fun e w' => e = .returned (.tuple #[.agg #[.bool false, .bool false, .int .i64 0, .int .i64 0], .agg #[.int .i64 (guest bs nf second first page 0).ft.k, .int .i64 (guest bs nf second first page 0).ft.s, .int .i64 (guest bs nf second first page 0).ft.l, .bool (guest bs nf second first page 0).ft.wk, .int .i64 (guest bs nf second first page 0).ft.p]]) ∧ Fr (at' b) w w' ∧ IsState w' b p 1 0 page := by
  rcases guest_cases bs nf second first page 0 with ⟨h1, e⟩ | ⟨h1, h2, e⟩ | ⟨_, _, e⟩
  · rw [e]; exact desc_a1 w b p bf nf bs first 1 0 page fn caps _ h hS hbp hbf hg _ rfl h1
  · rw [e]; exact desc_a2 w b p bf nf bs first 1 0 page fn caps _ h hS hbp hbf hg _ rfl hp h1 h2
  · rw [e] at hk; exact absurd rfl hk

theorem ndesc_no1 (w : World) (b p bf nf : Nat) (bs : List UInt8) (first second page : Int) (fn : Nat) (caps : Array Value) (h : IsRam w p bf nf bs) (hS : IsState w b p 1 0 page) (hbp : p ≠ b) (hbf : bf ≠ b) (hg : Lies fn caps (lies bs nf second) b w) (hp : isP page = true) (hk : (guest bs nf second first page 0).ft.k = 0) (hj : (guest bs nf second (guest bs nf second first page 0).fr page 1).ft.k ≠ 0) :
    Calls Tryz.prog 58 #[.pointer (some ⟨b, 0, none⟩), .int .i64 first, .func (.func fn) #[] caps] w fun e w' => e = .returned (.tuple #[.agg #[.bool false, .bool false, .int .i64 0, .int .i64 0], .agg #[.int .i64 (guest bs nf second (guest bs nf second first page 0).fr page 1).ft.k, .int .i64 (guest bs nf second (guest bs nf second first page 0).fr page 1).ft.s, .int .i64 (guest bs nf second (guest bs nf second first page 0).fr page 1).ft.l, .bool (guest bs nf second (guest bs nf second first page 0).fr page 1).ft.wk, .int .i64 (guest bs nf second (guest bs nf second first page 0).fr page 1).ft.p]]) ∧ Fr (at' b) w w' ∧ IsState w' b p 1 1 page := by
  rcases guest_cases bs nf second first page 0 with ⟨h1, e⟩ | ⟨h1, h2, e⟩ | ⟨h1, h2, e⟩
  · rw [e] at hk; exact absurd hk h1
  · rw [e] at hk; exact absurd hk h2
  · have e0 : (guest bs nf second first page 0).fr = df (ew bs (lies bs nf second first).fr page 0) := by rw [e]
    rw [e0] at hj ⊢
    rcases guest_cases bs nf second (df (ew bs (lies bs nf second first).fr page 0)) page 1 with ⟨h3, e'⟩ | ⟨h3, h4, e'⟩ | ⟨_, _, e'⟩
    · rw [e']; exact desc_b1 w b p bf nf bs first 1 0 page fn caps _ h hS hbp hbf hg _ rfl hp h1 h2 _ rfl h3
    · rw [e']; exact desc_b2 w b p bf nf bs first 1 0 page fn caps _ h hS hbp hbf hg _ rfl hp h1 h2 _ rfl h3 h4
    · rw [e'] at hj; exact absurd rfl hj

theorem ndesc_yes (w : World) (b p bf nf : Nat) (bs : List UInt8) (first second page : Int) (fn : Nat) (caps : Array Value) (h : IsRam w p bf nf bs) (hS : IsState w b p 1 0 page) (hbp : p ≠ b) (hbf : bf ≠ b) (hg : Lies fn caps (lies bs nf second) b w) (hp : isP page = true) (hk : (guest bs nf second first page 0).ft.k = 0) (hj : (guest bs nf second (guest bs nf second first page 0).fr page 1).ft.k = 0) :
    Calls Tryz.prog 58 #[.pointer (some ⟨b, 0, none⟩), .int .i64 first, .func (.func fn) #[] caps] w fun e w' => e = .returned (.tuple #[.agg #[.bool true, .bool true, .int .i64 (guest bs nf second (guest bs nf second first page 0).fr page 1).ri, .int .i64 (guest bs nf second (guest bs nf second first page 0).fr page 1).fr], .agg #[.int .i64 0, .int .i64 0, .int .i64 0, .bool false, .int .i64 0]]) ∧ Fr (at' b) w w' ∧ IsState w' b p 1 1 page := by
  rcases guest_cases bs nf second first page 0 with ⟨h1, e⟩ | ⟨h1, h2, e⟩ | ⟨h1, h2, e⟩
  · rw [e] at hk; exact absurd hk h1
  · rw [e] at hk; exact absurd hk h2
  · have e0 : (guest bs nf second first page 0).fr = df (ew bs (lies bs nf second first).fr page 0) := by rw [e]
    rw [e0] at hj ⊢
    rcases guest_cases bs nf second (df (ew bs (lies bs nf second first).fr page 0)) page 1 with ⟨h3, e'⟩ | ⟨h3, h4, e'⟩ | ⟨h3, h4, e'⟩
    · rw [e'] at hj; exact absurd hj h3
    · rw [e'] at hj; exact absurd hj h4
    · rw [e']; exact desc_c w b p bf nf bs first 1 0 page fn caps _ h hS hbp hbf hg _ rfl hp h1 h2 _ rfl h3 h4

set_option maxHeartbeats 1000000 in
theorem nested_p (w : World) (p : Nat) (vm sd first second page want : Int) (hp : isP page = false) :
    Calls Tryz.prog 180 #[.pointer (some ⟨p, 0, none⟩), .agg #[.int .i64 vm, .int .i64 sd, .int .i64 first, .int .i64 second], .int .i64 page, .int .i64 want] w fun e w' => e = .returned (.tuple #[.int .i64 0, .int .i64 0, .agg #[.int .i64 3, .int .i64 0, .int .i64 0, .bool false, .int .i64 0]]) ∧ Fr none' w w' := by
  have f1 := Fr.refl none' w
  have r4 := row_alloc w #[.pointer (some ⟨p, 0, none⟩)] 33
  replace f1 := f1.alloc (.cells #[.pointer (some ⟨p, 0, none⟩)] 33)
  have r5 := row_alloc2 w (.cells #[.pointer (some ⟨p, 0, none⟩)] 33) #[.int .i64 vm, .int .i64 sd, .int .i64 first, .int .i64 second] 63
  replace r4 := r4.alloc (.cells #[.int .i64 vm, .int .i64 sd, .int .i64 first, .int .i64 second] 63)
  replace f1 := f1.alloc (.cells #[.int .i64 vm, .int .i64 sd, .int .i64 first, .int .i64 second] 63)
  have r10 := row_alloc3 w (.cells #[.pointer (some ⟨p, 0, none⟩)] 33) (.cells #[.int .i64 vm, .int .i64 sd, .int .i64 first, .int .i64 second] 63) #[.int .i64 0, .int .i64 0, .int .i64 0, .bool false, .int .i64 0] 50
  replace r4 := r4.alloc (.cells #[.int .i64 0, .int .i64 0, .int .i64 0, .bool false, .int .i64 0] 50)
  replace r5 := r5.alloc (.cells #[.int .i64 0, .int .i64 0, .int .i64 0, .bool false, .int .i64 0] 50)
  replace f1 := f1.alloc (.cells #[.int .i64 0, .int .i64 0, .int .i64 0, .bool false, .int .i64 0] 50)
  go_enter Tryz.func180, Tryz.ntmps180
  go_wp2_with fail
  refine (isPage_any _ _).mono ?_
  rintro e v1 ⟨rfl, rfl⟩
  rw [hp]
  go_wp2_with fail
  refine (outside_any _).mono ?_
  rintro e v2 ⟨rfl, g2⟩
  replace r4 := r4.keep g2 (fun h => h)
  replace r5 := r5.keep g2 (fun h => h)
  replace r10 := r10.keep g2 (fun h => h)
  replace f1 := f1.trans g2
  clear g2
  obtain ⟨c0x0, c0x1, c0x2, c0x3, c0x4⟩ := cells5 r10
  obtain ⟨z1x0, z1x1, z1x2, z1x3, z1x4⟩ := frozen5 r10
  go_wp2_with fail
  refine bodyPost_ret (ret_ttf rfl rfl (r10.put5 _ _ _ _ _) rfl) rfl ?_
  exact ⟨rfl, f1.put5 (Or.inl (by omega)) _ _ _ _ _⟩

set_option maxHeartbeats 1000000 in
theorem nested_w (w : World) (p : Nat) (vm sd first second page want : Int) (hp : isP page = true) (hw : isR want = false) :
    Calls Tryz.prog 180 #[.pointer (some ⟨p, 0, none⟩), .agg #[.int .i64 vm, .int .i64 sd, .int .i64 first, .int .i64 second], .int .i64 page, .int .i64 want] w fun e w' => e = .returned (.tuple #[.int .i64 0, .int .i64 0, .agg #[.int .i64 3, .int .i64 0, .int .i64 0, .bool false, .int .i64 0]]) ∧ Fr none' w w' := by
  have f1 := Fr.refl none' w
  have r4 := row_alloc w #[.pointer (some ⟨p, 0, none⟩)] 33
  replace f1 := f1.alloc (.cells #[.pointer (some ⟨p, 0, none⟩)] 33)
  have r5 := row_alloc2 w (.cells #[.pointer (some ⟨p, 0, none⟩)] 33) #[.int .i64 vm, .int .i64 sd, .int .i64 first, .int .i64 second] 63
  replace r4 := r4.alloc (.cells #[.int .i64 vm, .int .i64 sd, .int .i64 first, .int .i64 second] 63)
  replace f1 := f1.alloc (.cells #[.int .i64 vm, .int .i64 sd, .int .i64 first, .int .i64 second] 63)
  have r10 := row_alloc3 w (.cells #[.pointer (some ⟨p, 0, none⟩)] 33) (.cells #[.int .i64 vm, .int .i64 sd, .int .i64 first, .int .i64 second] 63) #[.int .i64 0, .int .i64 0, .int .i64 0, .bool false, .int .i64 0] 50
  replace r4 := r4.alloc (.cells #[.int .i64 0, .int .i64 0, .int .i64 0, .bool false, .int .i64 0] 50)
  replace r5 := r5.alloc (.cells #[.int .i64 0, .int .i64 0, .int .i64 0, .bool false, .int .i64 0] 50)
  replace f1 := f1.alloc (.cells #[.int .i64 0, .int .i64 0, .int .i64 0, .bool false, .int .i64 0] 50)
  go_enter Tryz.func180, Tryz.ntmps180
  go_wp2_with fail
  refine (isPage_any _ _).mono ?_
  rintro e v1 ⟨rfl, rfl⟩
  rw [hp]
  go_wp2_with fail
  refine (isRight_any _ _).mono ?_
  rintro e v2 ⟨rfl, rfl⟩
  rw [hw]
  go_wp2_with fail
  refine (outside_any _).mono ?_
  rintro e v3 ⟨rfl, g3⟩
  replace r4 := r4.keep g3 (fun h => h)
  replace r5 := r5.keep g3 (fun h => h)
  replace r10 := r10.keep g3 (fun h => h)
  replace f1 := f1.trans g3
  clear g3
  obtain ⟨c0x0, c0x1, c0x2, c0x3, c0x4⟩ := cells5 r10
  obtain ⟨z1x0, z1x1, z1x2, z1x3, z1x4⟩ := frozen5 r10
  go_wp2_with fail
  refine bodyPost_ret (ret_ttf rfl rfl (r10.put5 _ _ _ _ _) rfl) rfl ?_
  exact ⟨rfl, f1.put5 (Or.inl (by omega)) _ _ _ _ _⟩

set_option maxHeartbeats 1000000 in
theorem nested_plain (w : World) (p bf nf : Nat) (bs : List UInt8) (vm sd first second page want : Int) (h : IsRam w p bf nf bs) (hp : isP page = true) (hw : isR want = true) (hf : first < 0) (x : Res) (hx : granted bs nf second page want = x) :
    Calls Tryz.prog 180 #[.pointer (some ⟨p, 0, none⟩), .agg #[.int .i64 vm, .int .i64 sd, .int .i64 first, .int .i64 second], .int .i64 page, .int .i64 want] w fun e w' => e = .returned (.tuple #[.int .i64 x.fr, .int .i64 x.ri, .agg #[.int .i64 x.ft.k, .int .i64 x.ft.s, .int .i64 x.ft.l, .bool x.ft.wk, .int .i64 x.ft.p]]) ∧ Fr none' w w' := by
  have t2 : decide (first < 0) = true := decide_eq_true hf
  have hs := fun w0 h0 => granted_any w0 p bf nf bs second page want h0
  rw [hx] at hs
  clear hx hf
  have f1 := Fr.refl none' w
  have r4 := row_alloc w #[.pointer (some ⟨p, 0, none⟩)] 33
  replace h := h.alloc (.cells #[.pointer (some ⟨p, 0, none⟩)] 33)
  replace f1 := f1.alloc (.cells #[.pointer (some ⟨p, 0, none⟩)] 33)
  have r5 := row_alloc2 w (.cells #[.pointer (some ⟨p, 0, none⟩)] 33) #[.int .i64 vm, .int .i64 sd, .int .i64 first, .int .i64 second] 63
  replace r4 := r4.alloc (.cells #[.int .i64 vm, .int .i64 sd, .int .i64 first, .int .i64 second] 63)
  replace h := h.alloc (.cells #[.int .i64 vm, .int .i64 sd, .int .i64 first, .int .i64 second] 63)
  replace f1 := f1.alloc (.cells #[.int .i64 vm, .int .i64 sd, .int .i64 first, .int .i64 second] 63)
  have r10 := row_alloc3 w (.cells #[.pointer (some ⟨p, 0, none⟩)] 33) (.cells #[.int .i64 vm, .int .i64 sd, .int .i64 first, .int .i64 second] 63) #[.int .i64 0, .int .i64 0, .int .i64 0, .bool false, .int .i64 0] 50
  replace r4 := r4.alloc (.cells #[.int .i64 0, .int .i64 0, .int .i64 0, .bool false, .int .i64 0] 50)
  replace r5 := r5.alloc (.cells #[.int .i64 0, .int .i64 0, .int .i64 0, .bool false, .int .i64 0] 50)
  replace h := h.alloc (.cells #[.int .i64 0, .int .i64 0, .int .i64 0, .bool false, .int .i64 0] 50)
  replace f1 := f1.alloc (.cells #[.int .i64 0, .int .i64 0, .int .i64 0, .bool false, .int .i64 0] 50)
  have d0 := r4.cell 0
  obtain ⟨c1x0, c1x1, c1x2, c1x3⟩ := row4 r5
  go_enter Tryz.func180, Tryz.ntmps180
  go_wp2_with fail
  refine (isPage_any _ _).mono ?_
  rintro e v1 ⟨rfl, rfl⟩
  rw [hp]
  go_wp2_with fail
  refine (isRight_any _ _).mono ?_
  rintro e v2 ⟨rfl, rfl⟩
  rw [hw]
  go_wp2_with fail
  refine (hs _ h).mono ?_
  rintro e v3 ⟨rfl, g3⟩
  clear d0 c1x0 c1x1 c1x2 c1x3
  replace r4 := r4.keep g3 (fun h => h)
  replace r5 := r5.keep g3 (fun h => h)
  replace r10 := r10.keep g3 (fun h => h)
  replace h := h.keep g3 (fun h => h) (fun h => h)
  replace f1 := f1.trans g3
  clear g3
  obtain ⟨c2x0, c2x1, c2x2, c2x3, c2x4⟩ := cells5 r10
  obtain ⟨z3x0, z3x1, z3x2, z3x3, z3x4⟩ := frozen5 r10
  go_wp2_with fail
  refine bodyPost_ret (ret_ttf rfl rfl (r10.put5 _ _ _ _ _) rfl) rfl ?_
  exact ⟨rfl, f1.put5 (Or.inl (by omega)) _ _ _ _ _⟩

set_option maxHeartbeats 2000000 in
theorem nested_g0 (w : World) (p bf nf : Nat) (bs : List UInt8) (vm sd first second page want : Int) (h : IsRam w p bf nf bs) (hp : isP page = true) (hw : isR want = true) (hf : ¬ first < 0) (x : Res) (hx : (guest bs nf second first page 0) = x) (hk : x.ft.k ≠ 0) :
    Calls Tryz.prog 180 #[.pointer (some ⟨p, 0, none⟩), .agg #[.int .i64 vm, .int .i64 sd, .int .i64 first, .int .i64 second], .int .i64 page, .int .i64 want] w fun e w' => e = .returned (.tuple #[.int .i64 0, .int .i64 0, .agg #[.int .i64 x.ft.k, .int .i64 x.ft.s, .int .i64 x.ft.l, .bool x.ft.wk, .int .i64 x.ft.p]]) ∧ Fr none' w w' := by
  have t3 : (x.ft.k == 0) = false := by simp [hk]
  have n1 : Hid (p < w.heap.size) := h.head.lt
  have n2 : Hid (bf < w.heap.size) := h.row.lt
  have t2 : decide (first < 0) = false := decide_eq_false hf
  clear hf
  have hp0 := h.head.lt
  have hb0 := h.row.lt
  have f1 := Fr.refl none' w
  have r4 := row_alloc w #[.pointer (some ⟨p, 0, none⟩)] 33
  replace h := h.alloc (.cells #[.pointer (some ⟨p, 0, none⟩)] 33)
  replace f1 := f1.alloc (.cells #[.pointer (some ⟨p, 0, none⟩)] 33)
  have r5 := row_alloc2 w (.cells #[.pointer (some ⟨p, 0, none⟩)] 33) #[.int .i64 vm, .int .i64 sd, .int .i64 first, .int .i64 second] 63
  replace r4 := r4.alloc (.cells #[.int .i64 vm, .int .i64 sd, .int .i64 first, .int .i64 second] 63)
  replace h := h.alloc (.cells #[.int .i64 vm, .int .i64 sd, .int .i64 first, .int .i64 second] 63)
  replace f1 := f1.alloc (.cells #[.int .i64 vm, .int .i64 sd, .int .i64 first, .int .i64 second] 63)
  have r10 := row_alloc3 w (.cells #[.pointer (some ⟨p, 0, none⟩)] 33) (.cells #[.int .i64 vm, .int .i64 sd, .int .i64 first, .int .i64 second] 63) #[.int .i64 0, .int .i64 0, .int .i64 0, .bool false, .int .i64 0] 50
  replace r4 := r4.alloc (.cells #[.int .i64 0, .int .i64 0, .int .i64 0, .bool false, .int .i64 0] 50)
  replace r5 := r5.alloc (.cells #[.int .i64 0, .int .i64 0, .int .i64 0, .bool false, .int .i64 0] 50)
  replace h := h.alloc (.cells #[.int .i64 0, .int .i64 0, .int .i64 0, .bool false, .int .i64 0] 50)
  replace f1 := f1.alloc (.cells #[.int .i64 0, .int .i64 0, .int .i64 0, .bool false, .int .i64 0] 50)
  have r12 := row_alloc4 w (.cells #[.pointer (some ⟨p, 0, none⟩)] 33) (.cells #[.int .i64 vm, .int .i64 sd, .int .i64 first, .int .i64 second] 63) (.cells #[.int .i64 0, .int .i64 0, .int .i64 0, .bool false, .int .i64 0] 50) #[.pointer (some ⟨p, 0, none⟩), .int .i64 1, .int .i64 0, .int .i64 page] 146
  replace r4 := r4.alloc (.cells #[.pointer (some ⟨p, 0, none⟩), .int .i64 1, .int .i64 0, .int .i64 page] 146)
  replace r5 := r5.alloc (.cells #[.pointer (some ⟨p, 0, none⟩), .int .i64 1, .int .i64 0, .int .i64 page] 146)
  replace r10 := r10.alloc (.cells #[.pointer (some ⟨p, 0, none⟩), .int .i64 1, .int .i64 0, .int .i64 page] 146)
  replace h := h.alloc (.cells #[.pointer (some ⟨p, 0, none⟩), .int .i64 1, .int .i64 0, .int .i64 page] 146)
  replace f1 := f1.alloc (.cells #[.pointer (some ⟨p, 0, none⟩), .int .i64 1, .int .i64 0, .int .i64 page] 146)
  have hg := lies_guest _ (w.heap.size + 1 + 1 + 1) p bf nf _ _ bs vm sd first second h r4 r5 (by omega) (by omega) (by omega) (by omega)
  have hd := ndesc_no0 _ (w.heap.size + 1 + 1 + 1) p bf nf bs first second page _ _ h r12 (by omega) (by omega) hg hp (by rw [hx]; exact hk)
  rw [hx] at hd
  clear hx hk
  clear hg hp0 hb0
  have d0 := r4.cell 0
  obtain ⟨c1x0, c1x1, c1x2, c1x3⟩ := row4 r5
  go_enter Tryz.func180, Tryz.ntmps180
  go_wp2_with fail
  refine (isPage_any _ _).mono ?_
  rintro e v1 ⟨rfl, rfl⟩
  rw [hp]
  go_wp2_with fail
  refine (isRight_any _ _).mono ?_
  rintro e v2 ⟨rfl, rfl⟩
  rw [hw]
  go_wp2_with fail
  refine hd.mono ?_
  rintro e v1 ⟨rfl, g1, s1⟩
  clear hd
  clear d0 c1x0 c1x1 c1x2 c1x3
  replace r4 := r4.keep g1 (show _ ≠ _ by omega)
  replace r5 := r5.keep g1 (show _ ≠ _ by omega)
  replace r10 := r10.keep g1 (show _ ≠ _ by omega)
  replace h := h.keep g1 (show _ ≠ _ by have := n1.out; omega) (show _ ≠ _ by have := n2.out; omega)
  replace f1 := f1.newerS g1 (by omega)
  replace r12 : Row _ _ _ _ := s1
  have l1 : Hid (w.heap.size + 1 + 1 + 1 < v1.heap.size) := r12.lt
  clear g1 s1
  have r13 := row_alloc v1 #[.bool false, .bool false, .int .i64 0, .int .i64 0] 71
  replace r4 := r4.alloc (.cells #[.bool false, .bool false, .int .i64 0, .int .i64 0] 71)
  replace r5 := r5.alloc (.cells #[.bool false, .bool false, .int .i64 0, .int .i64 0] 71)
  replace r10 := r10.alloc (.cells #[.bool false, .bool false, .int .i64 0, .int .i64 0] 71)
  replace r12 := r12.alloc (.cells #[.bool false, .bool false, .int .i64 0, .int .i64 0] 71)
  replace h := h.alloc (.cells #[.bool false, .bool false, .int .i64 0, .int .i64 0] 71)
  replace f1 := f1.alloc (.cells #[.bool false, .bool false, .int .i64 0, .int .i64 0] 71)
  obtain ⟨c2x0, c2x1, c2x2, c2x3, c2x4⟩ := cells5 r10
  obtain ⟨z3x0, z3x1, z3x2, z3x3, z3x4⟩ := frozen5 r10
  go_wp2_with fail
  clear c2x0 c2x1 c2x2 c2x3 c2x4 z3x0 z3x1 z3x2 z3x3 z3x4
  have l2 := l1.out
  have m1 := n1.out
  have m2 := n2.out
  replace r4 := r4.past5 (b' := w.heap.size + 1 + 1) (by omega) (.int .i64 x.ft.k) (.int .i64 x.ft.s) (.int .i64 x.ft.l) (.bool x.ft.wk) (.int .i64 x.ft.p)
  replace r5 := r5.past5 (b' := w.heap.size + 1 + 1) (by omega) (.int .i64 x.ft.k) (.int .i64 x.ft.s) (.int .i64 x.ft.l) (.bool x.ft.wk) (.int .i64 x.ft.p)
  replace r12 := r12.past5 (b' := w.heap.size + 1 + 1) (by omega) (.int .i64 x.ft.k) (.int .i64 x.ft.s) (.int .i64 x.ft.l) (.bool x.ft.wk) (.int .i64 x.ft.p)
  replace r13 := r13.past5 (b' := w.heap.size + 1 + 1) (by omega) (.int .i64 x.ft.k) (.int .i64 x.ft.s) (.int .i64 x.ft.l) (.bool x.ft.wk) (.int .i64 x.ft.p)
  replace r10 := r10.put5 (.int .i64 x.ft.k) (.int .i64 x.ft.s) (.int .i64 x.ft.l) (.bool x.ft.wk) (.int .i64 x.ft.p)
  replace h := h.put5 (b := w.heap.size + 1 + 1) (by omega) (by omega) (.int .i64 x.ft.k) (.int .i64 x.ft.s) (.int .i64 x.ft.l) (.bool x.ft.wk) (.int .i64 x.ft.p)
  replace f1 := f1.put5 (b := w.heap.size + 1 + 1) (Or.inl (by omega)) (.int .i64 x.ft.k) (.int .i64 x.ft.s) (.int .i64 x.ft.l) (.bool x.ft.wk) (.int .i64 x.ft.p)
  unfold put5 at r4 r5 r10 r12 r13 h f1
  clear l2 m1 m2
  refine (none_any x.ft _).mono ?_
  rintro e v2 ⟨rfl, g2⟩
  rw [t3]
  replace r4 := r4.keep g2 (fun h => h)
  replace r5 := r5.keep g2 (fun h => h)
  replace r10 := r10.keep g2 (fun h => h)
  replace r12 := r12.keep g2 (fun h => h)
  replace r13 := r13.keep g2 (fun h => h)
  replace h := h.keep g2 (fun h => h) (fun h => h)
  replace f1 := f1.trans g2
  clear g2
  obtain ⟨c4x0, c4x1, c4x2, c4x3, c4x4⟩ := cells5 r10
  obtain ⟨z5x0, z5x1, z5x2, z5x3, z5x4⟩ := frozen5 r10
  go_wp2_with fail
  go_region
  go_wp2_with fail
  refine bodyPost_ret (ret_ttf rfl rfl (r10.put5 _ _ _ _ _).drew rfl) rfl ?_
  exact ⟨rfl, (f1.put5 (Or.inl (by omega)) _ _ _ _ _).drew⟩

set_option maxHeartbeats 2000000 in
theorem nested_g1 (w : World) (p bf nf : Nat) (bs : List UInt8) (vm sd first second page want : Int) (h : IsRam w p bf nf bs) (hp : isP page = true) (hw : isR want = true) (hf : ¬ first < 0) (hk : (guest bs nf second first page 0).ft.k = 0) (y : Res) (hy : (guest bs nf second (guest bs nf second first page 0).fr page 1) = y) (hj : y.ft.k ≠ 0) :
    Calls Tryz.prog 180 #[.pointer (some ⟨p, 0, none⟩), .agg #[.int .i64 vm, .int .i64 sd, .int .i64 first, .int .i64 second], .int .i64 page, .int .i64 want] w fun e w' => e = .returned (.tuple #[.int .i64 0, .int .i64 0, .agg #[.int .i64 y.ft.k, .int .i64 y.ft.s, .int .i64 y.ft.l, .bool y.ft.wk, .int .i64 y.ft.p]]) ∧ Fr none' w w' := by
  have t3 : (y.ft.k == 0) = false := by simp [hj]
  have n1 : Hid (p < w.heap.size) := h.head.lt
  have n2 : Hid (bf < w.heap.size) := h.row.lt
  have t2 : decide (first < 0) = false := decide_eq_false hf
  clear hf
  have hp0 := h.head.lt
  have hb0 := h.row.lt
  have f1 := Fr.refl none' w
  have r4 := row_alloc w #[.pointer (some ⟨p, 0, none⟩)] 33
  replace h := h.alloc (.cells #[.pointer (some ⟨p, 0, none⟩)] 33)
  replace f1 := f1.alloc (.cells #[.pointer (some ⟨p, 0, none⟩)] 33)
  have r5 := row_alloc2 w (.cells #[.pointer (some ⟨p, 0, none⟩)] 33) #[.int .i64 vm, .int .i64 sd, .int .i64 first, .int .i64 second] 63
  replace r4 := r4.alloc (.cells #[.int .i64 vm, .int .i64 sd, .int .i64 first, .int .i64 second] 63)
  replace h := h.alloc (.cells #[.int .i64 vm, .int .i64 sd, .int .i64 first, .int .i64 second] 63)
  replace f1 := f1.alloc (.cells #[.int .i64 vm, .int .i64 sd, .int .i64 first, .int .i64 second] 63)
  have r10 := row_alloc3 w (.cells #[.pointer (some ⟨p, 0, none⟩)] 33) (.cells #[.int .i64 vm, .int .i64 sd, .int .i64 first, .int .i64 second] 63) #[.int .i64 0, .int .i64 0, .int .i64 0, .bool false, .int .i64 0] 50
  replace r4 := r4.alloc (.cells #[.int .i64 0, .int .i64 0, .int .i64 0, .bool false, .int .i64 0] 50)
  replace r5 := r5.alloc (.cells #[.int .i64 0, .int .i64 0, .int .i64 0, .bool false, .int .i64 0] 50)
  replace h := h.alloc (.cells #[.int .i64 0, .int .i64 0, .int .i64 0, .bool false, .int .i64 0] 50)
  replace f1 := f1.alloc (.cells #[.int .i64 0, .int .i64 0, .int .i64 0, .bool false, .int .i64 0] 50)
  have r12 := row_alloc4 w (.cells #[.pointer (some ⟨p, 0, none⟩)] 33) (.cells #[.int .i64 vm, .int .i64 sd, .int .i64 first, .int .i64 second] 63) (.cells #[.int .i64 0, .int .i64 0, .int .i64 0, .bool false, .int .i64 0] 50) #[.pointer (some ⟨p, 0, none⟩), .int .i64 1, .int .i64 0, .int .i64 page] 146
  replace r4 := r4.alloc (.cells #[.pointer (some ⟨p, 0, none⟩), .int .i64 1, .int .i64 0, .int .i64 page] 146)
  replace r5 := r5.alloc (.cells #[.pointer (some ⟨p, 0, none⟩), .int .i64 1, .int .i64 0, .int .i64 page] 146)
  replace r10 := r10.alloc (.cells #[.pointer (some ⟨p, 0, none⟩), .int .i64 1, .int .i64 0, .int .i64 page] 146)
  replace h := h.alloc (.cells #[.pointer (some ⟨p, 0, none⟩), .int .i64 1, .int .i64 0, .int .i64 page] 146)
  replace f1 := f1.alloc (.cells #[.pointer (some ⟨p, 0, none⟩), .int .i64 1, .int .i64 0, .int .i64 page] 146)
  have hg := lies_guest _ (w.heap.size + 1 + 1 + 1) p bf nf _ _ bs vm sd first second h r4 r5 (by omega) (by omega) (by omega) (by omega)
  have hd := ndesc_no1 _ (w.heap.size + 1 + 1 + 1) p bf nf bs first second page _ _ h r12 (by omega) (by omega) hg hp hk (by rw [hy]; exact hj)
  rw [hy] at hd
  clear hy hk hj
  clear hg hp0 hb0
  have d0 := r4.cell 0
  obtain ⟨c1x0, c1x1, c1x2, c1x3⟩ := row4 r5
  go_enter Tryz.func180, Tryz.ntmps180
  go_wp2_with fail
  refine (isPage_any _ _).mono ?_
  rintro e v1 ⟨rfl, rfl⟩
  rw [hp]
  go_wp2_with fail
  refine (isRight_any _ _).mono ?_
  rintro e v2 ⟨rfl, rfl⟩
  rw [hw]
  go_wp2_with fail
  refine hd.mono ?_
  rintro e v1 ⟨rfl, g1, s1⟩
  clear hd
  clear d0 c1x0 c1x1 c1x2 c1x3
  replace r4 := r4.keep g1 (show _ ≠ _ by omega)
  replace r5 := r5.keep g1 (show _ ≠ _ by omega)
  replace r10 := r10.keep g1 (show _ ≠ _ by omega)
  replace h := h.keep g1 (show _ ≠ _ by have := n1.out; omega) (show _ ≠ _ by have := n2.out; omega)
  replace f1 := f1.newerS g1 (by omega)
  replace r12 : Row _ _ _ _ := s1
  have l1 : Hid (w.heap.size + 1 + 1 + 1 < v1.heap.size) := r12.lt
  clear g1 s1
  have r13 := row_alloc v1 #[.bool false, .bool false, .int .i64 0, .int .i64 0] 71
  replace r4 := r4.alloc (.cells #[.bool false, .bool false, .int .i64 0, .int .i64 0] 71)
  replace r5 := r5.alloc (.cells #[.bool false, .bool false, .int .i64 0, .int .i64 0] 71)
  replace r10 := r10.alloc (.cells #[.bool false, .bool false, .int .i64 0, .int .i64 0] 71)
  replace r12 := r12.alloc (.cells #[.bool false, .bool false, .int .i64 0, .int .i64 0] 71)
  replace h := h.alloc (.cells #[.bool false, .bool false, .int .i64 0, .int .i64 0] 71)
  replace f1 := f1.alloc (.cells #[.bool false, .bool false, .int .i64 0, .int .i64 0] 71)
  obtain ⟨c2x0, c2x1, c2x2, c2x3, c2x4⟩ := cells5 r10
  obtain ⟨z3x0, z3x1, z3x2, z3x3, z3x4⟩ := frozen5 r10
  go_wp2_with fail
  clear c2x0 c2x1 c2x2 c2x3 c2x4 z3x0 z3x1 z3x2 z3x3 z3x4
  have l2 := l1.out
  have m1 := n1.out
  have m2 := n2.out
  replace r4 := r4.past5 (b' := w.heap.size + 1 + 1) (by omega) (.int .i64 y.ft.k) (.int .i64 y.ft.s) (.int .i64 y.ft.l) (.bool y.ft.wk) (.int .i64 y.ft.p)
  replace r5 := r5.past5 (b' := w.heap.size + 1 + 1) (by omega) (.int .i64 y.ft.k) (.int .i64 y.ft.s) (.int .i64 y.ft.l) (.bool y.ft.wk) (.int .i64 y.ft.p)
  replace r12 := r12.past5 (b' := w.heap.size + 1 + 1) (by omega) (.int .i64 y.ft.k) (.int .i64 y.ft.s) (.int .i64 y.ft.l) (.bool y.ft.wk) (.int .i64 y.ft.p)
  replace r13 := r13.past5 (b' := w.heap.size + 1 + 1) (by omega) (.int .i64 y.ft.k) (.int .i64 y.ft.s) (.int .i64 y.ft.l) (.bool y.ft.wk) (.int .i64 y.ft.p)
  replace r10 := r10.put5 (.int .i64 y.ft.k) (.int .i64 y.ft.s) (.int .i64 y.ft.l) (.bool y.ft.wk) (.int .i64 y.ft.p)
  replace h := h.put5 (b := w.heap.size + 1 + 1) (by omega) (by omega) (.int .i64 y.ft.k) (.int .i64 y.ft.s) (.int .i64 y.ft.l) (.bool y.ft.wk) (.int .i64 y.ft.p)
  replace f1 := f1.put5 (b := w.heap.size + 1 + 1) (Or.inl (by omega)) (.int .i64 y.ft.k) (.int .i64 y.ft.s) (.int .i64 y.ft.l) (.bool y.ft.wk) (.int .i64 y.ft.p)
  unfold put5 at r4 r5 r10 r12 r13 h f1
  clear l2 m1 m2
  refine (none_any y.ft _).mono ?_
  rintro e v2 ⟨rfl, g2⟩
  rw [t3]
  replace r4 := r4.keep g2 (fun h => h)
  replace r5 := r5.keep g2 (fun h => h)
  replace r10 := r10.keep g2 (fun h => h)
  replace r12 := r12.keep g2 (fun h => h)
  replace r13 := r13.keep g2 (fun h => h)
  replace h := h.keep g2 (fun h => h) (fun h => h)
  replace f1 := f1.trans g2
  clear g2
  obtain ⟨c4x0, c4x1, c4x2, c4x3, c4x4⟩ := cells5 r10
  obtain ⟨z5x0, z5x1, z5x2, z5x3, z5x4⟩ := frozen5 r10
  go_wp2_with fail
  go_region
  go_wp2_with fail
  refine bodyPost_ret (ret_ttf rfl rfl (r10.put5 _ _ _ _ _).drew rfl) rfl ?_
  exact ⟨rfl, (f1.put5 (Or.inl (by omega)) _ _ _ _ _).drew⟩

set_option maxHeartbeats 2000000 in
theorem nested_no (w : World) (p bf nf : Nat) (bs : List UInt8) (vm sd first second page want : Int) (h : IsRam w p bf nf bs) (hp : isP page = true) (hw : isR want = true) (hf : ¬ first < 0) (hk : (guest bs nf second first page 0).ft.k = 0) (y : Res) (hy : (guest bs nf second (guest bs nf second first page 0).fr page 1) = y) (hj : y.ft.k = 0) (hb : bits .and .i64 y.ri want = 0) :
    Calls Tryz.prog 180 #[.pointer (some ⟨p, 0, none⟩), .agg #[.int .i64 vm, .int .i64 sd, .int .i64 first, .int .i64 second], .int .i64 page, .int .i64 want] w fun e w' => e = .returned (.tuple #[.int .i64 0, .int .i64 0, .agg #[.int .i64 2, .int .i64 1, .int .i64 1, .bool false, .int .i64 page]]) ∧ Fr none' w w' := by
  have t3 : (bits .and .i64 y.ri want == 0) = true := by simp [hb]
  clear hb
  have n1 : Hid (p < w.heap.size) := h.head.lt
  have n2 : Hid (bf < w.heap.size) := h.row.lt
  have t2 : decide (first < 0) = false := decide_eq_false hf
  clear hf
  have hp0 := h.head.lt
  have hb0 := h.row.lt
  have f1 := Fr.refl none' w
  have r4 := row_alloc w #[.pointer (some ⟨p, 0, none⟩)] 33
  replace h := h.alloc (.cells #[.pointer (some ⟨p, 0, none⟩)] 33)
  replace f1 := f1.alloc (.cells #[.pointer (some ⟨p, 0, none⟩)] 33)
  have r5 := row_alloc2 w (.cells #[.pointer (some ⟨p, 0, none⟩)] 33) #[.int .i64 vm, .int .i64 sd, .int .i64 first, .int .i64 second] 63
  replace r4 := r4.alloc (.cells #[.int .i64 vm, .int .i64 sd, .int .i64 first, .int .i64 second] 63)
  replace h := h.alloc (.cells #[.int .i64 vm, .int .i64 sd, .int .i64 first, .int .i64 second] 63)
  replace f1 := f1.alloc (.cells #[.int .i64 vm, .int .i64 sd, .int .i64 first, .int .i64 second] 63)
  have r10 := row_alloc3 w (.cells #[.pointer (some ⟨p, 0, none⟩)] 33) (.cells #[.int .i64 vm, .int .i64 sd, .int .i64 first, .int .i64 second] 63) #[.int .i64 0, .int .i64 0, .int .i64 0, .bool false, .int .i64 0] 50
  replace r4 := r4.alloc (.cells #[.int .i64 0, .int .i64 0, .int .i64 0, .bool false, .int .i64 0] 50)
  replace r5 := r5.alloc (.cells #[.int .i64 0, .int .i64 0, .int .i64 0, .bool false, .int .i64 0] 50)
  replace h := h.alloc (.cells #[.int .i64 0, .int .i64 0, .int .i64 0, .bool false, .int .i64 0] 50)
  replace f1 := f1.alloc (.cells #[.int .i64 0, .int .i64 0, .int .i64 0, .bool false, .int .i64 0] 50)
  have r12 := row_alloc4 w (.cells #[.pointer (some ⟨p, 0, none⟩)] 33) (.cells #[.int .i64 vm, .int .i64 sd, .int .i64 first, .int .i64 second] 63) (.cells #[.int .i64 0, .int .i64 0, .int .i64 0, .bool false, .int .i64 0] 50) #[.pointer (some ⟨p, 0, none⟩), .int .i64 1, .int .i64 0, .int .i64 page] 146
  replace r4 := r4.alloc (.cells #[.pointer (some ⟨p, 0, none⟩), .int .i64 1, .int .i64 0, .int .i64 page] 146)
  replace r5 := r5.alloc (.cells #[.pointer (some ⟨p, 0, none⟩), .int .i64 1, .int .i64 0, .int .i64 page] 146)
  replace r10 := r10.alloc (.cells #[.pointer (some ⟨p, 0, none⟩), .int .i64 1, .int .i64 0, .int .i64 page] 146)
  replace h := h.alloc (.cells #[.pointer (some ⟨p, 0, none⟩), .int .i64 1, .int .i64 0, .int .i64 page] 146)
  replace f1 := f1.alloc (.cells #[.pointer (some ⟨p, 0, none⟩), .int .i64 1, .int .i64 0, .int .i64 page] 146)
  have hg := lies_guest _ (w.heap.size + 1 + 1 + 1) p bf nf _ _ bs vm sd first second h r4 r5 (by omega) (by omega) (by omega) (by omega)
  have hd := ndesc_yes _ (w.heap.size + 1 + 1 + 1) p bf nf bs first second page _ _ h r12 (by omega) (by omega) hg hp hk (by rw [hy]; exact hj)
  rw [hy] at hd
  clear hy hk hj
  clear hg hp0 hb0
  have d0 := r4.cell 0
  obtain ⟨c1x0, c1x1, c1x2, c1x3⟩ := row4 r5
  go_enter Tryz.func180, Tryz.ntmps180
  go_wp2_with fail
  refine (isPage_any _ _).mono ?_
  rintro e v1 ⟨rfl, rfl⟩
  rw [hp]
  go_wp2_with fail
  refine (isRight_any _ _).mono ?_
  rintro e v2 ⟨rfl, rfl⟩
  rw [hw]
  go_wp2_with fail
  refine hd.mono ?_
  rintro e v1 ⟨rfl, g1, s1⟩
  clear hd
  clear d0 c1x0 c1x1 c1x2 c1x3
  replace r4 := r4.keep g1 (show _ ≠ _ by omega)
  replace r5 := r5.keep g1 (show _ ≠ _ by omega)
  replace r10 := r10.keep g1 (show _ ≠ _ by omega)
  replace h := h.keep g1 (show _ ≠ _ by have := n1.out; omega) (show _ ≠ _ by have := n2.out; omega)
  replace f1 := f1.newerS g1 (by omega)
  replace r12 : Row _ _ _ _ := s1
  have l1 : Hid (w.heap.size + 1 + 1 + 1 < v1.heap.size) := r12.lt
  clear g1 s1
  have r13 := row_alloc v1 #[.bool true, .bool true, .int .i64 y.ri, .int .i64 y.fr] 71
  replace r4 := r4.alloc (.cells #[.bool true, .bool true, .int .i64 y.ri, .int .i64 y.fr] 71)
  replace r5 := r5.alloc (.cells #[.bool true, .bool true, .int .i64 y.ri, .int .i64 y.fr] 71)
  replace r10 := r10.alloc (.cells #[.bool true, .bool true, .int .i64 y.ri, .int .i64 y.fr] 71)
  replace r12 := r12.alloc (.cells #[.bool true, .bool true, .int .i64 y.ri, .int .i64 y.fr] 71)
  replace h := h.alloc (.cells #[.bool true, .bool true, .int .i64 y.ri, .int .i64 y.fr] 71)
  replace f1 := f1.alloc (.cells #[.bool true, .bool true, .int .i64 y.ri, .int .i64 y.fr] 71)
  obtain ⟨c2x0, c2x1, c2x2, c2x3, c2x4⟩ := cells5 r10
  obtain ⟨z3x0, z3x1, z3x2, z3x3, z3x4⟩ := frozen5 r10
  go_wp2_with fail
  clear c2x0 c2x1 c2x2 c2x3 c2x4 z3x0 z3x1 z3x2 z3x3 z3x4
  have l2 := l1.out
  have m1 := n1.out
  have m2 := n2.out
  replace r4 := r4.past5 (b' := w.heap.size + 1 + 1) (by omega) (.int .i64 0) (.int .i64 0) (.int .i64 0) (.bool false) (.int .i64 0)
  replace r5 := r5.past5 (b' := w.heap.size + 1 + 1) (by omega) (.int .i64 0) (.int .i64 0) (.int .i64 0) (.bool false) (.int .i64 0)
  replace r12 := r12.past5 (b' := w.heap.size + 1 + 1) (by omega) (.int .i64 0) (.int .i64 0) (.int .i64 0) (.bool false) (.int .i64 0)
  replace r13 := r13.past5 (b' := w.heap.size + 1 + 1) (by omega) (.int .i64 0) (.int .i64 0) (.int .i64 0) (.bool false) (.int .i64 0)
  replace r10 := r10.put5 (.int .i64 0) (.int .i64 0) (.int .i64 0) (.bool false) (.int .i64 0)
  replace h := h.put5 (b := w.heap.size + 1 + 1) (by omega) (by omega) (.int .i64 0) (.int .i64 0) (.int .i64 0) (.bool false) (.int .i64 0)
  replace f1 := f1.put5 (b := w.heap.size + 1 + 1) (Or.inl (by omega)) (.int .i64 0) (.int .i64 0) (.int .i64 0) (.bool false) (.int .i64 0)
  unfold put5 at r4 r5 r10 r12 r13 h f1
  clear l2 m1 m2
  refine (none_any ⟨0, 0, 0, false, 0⟩ _).mono ?_
  rintro e v2 ⟨rfl, g2⟩
  replace r4 := r4.keep g2 (fun h => h)
  replace r5 := r5.keep g2 (fun h => h)
  replace r10 := r10.keep g2 (fun h => h)
  replace r12 := r12.keep g2 (fun h => h)
  replace r13 := r13.keep g2 (fun h => h)
  replace h := h.keep g2 (fun h => h) (fun h => h)
  replace f1 := f1.trans g2
  clear g2
  obtain ⟨c4x0, c4x1, c4x2, c4x3⟩ := row4 r13
  go_wp2_with fail
  refine (fault_any _ _ _ _ _ _ _ r12).mono ?_
  rintro e v3 ⟨rfl, g3⟩
  clear c4x0 c4x1 c4x2 c4x3
  replace r4 := r4.keep g3 (fun h => h)
  replace r5 := r5.keep g3 (fun h => h)
  replace r10 := r10.keep g3 (fun h => h)
  replace r12 := r12.keep g3 (fun h => h)
  replace r13 := r13.keep g3 (fun h => h)
  replace h := h.keep g3 (fun h => h) (fun h => h)
  replace f1 := f1.trans g3
  clear g3
  obtain ⟨c5x0, c5x1, c5x2, c5x3, c5x4⟩ := cells5 r10
  obtain ⟨z6x0, z6x1, z6x2, z6x3, z6x4⟩ := frozen5 r10
  go_wp2_with fail
  refine bodyPost_ret (ret_ttf rfl rfl (r10.put5 _ _ _ _ _) rfl) rfl ?_
  exact ⟨rfl, f1.put5 (Or.inl (by omega)) _ _ _ _ _⟩

set_option maxHeartbeats 2000000 in
theorem nested_fin (w : World) (p bf nf : Nat) (bs : List UInt8) (vm sd first second page want : Int) (h : IsRam w p bf nf bs) (hp : isP page = true) (hw : isR want = true) (hf : ¬ first < 0) (hk : (guest bs nf second first page 0).ft.k = 0) (y : Res) (hy : (guest bs nf second (guest bs nf second first page 0).fr page 1) = y) (hj : y.ft.k = 0) (hb : bits .and .i64 y.ri want ≠ 0) (z : Res) (hz : granted bs nf second y.fr want = z) :
    Calls Tryz.prog 180 #[.pointer (some ⟨p, 0, none⟩), .agg #[.int .i64 vm, .int .i64 sd, .int .i64 first, .int .i64 second], .int .i64 page, .int .i64 want] w fun e w' => e = .returned (.tuple #[.int .i64 z.fr, .int .i64 (bits .and .i64 z.ri y.ri), .agg #[.int .i64 z.ft.k, .int .i64 z.ft.s, .int .i64 z.ft.l, .bool z.ft.wk, .int .i64 z.ft.p]]) ∧ Fr none' w w' := by
  have t3 : (bits .and .i64 y.ri want == 0) = false := by simp [hb]
  clear hb
  have hs := fun w0 h0 => granted_any w0 p bf nf bs second y.fr want h0
  rw [hz] at hs
  clear hz
  have n1 : Hid (p < w.heap.size) := h.head.lt
  have n2 : Hid (bf < w.heap.size) := h.row.lt
  have t2 : decide (first < 0) = false := decide_eq_false hf
  clear hf
  have hp0 := h.head.lt
  have hb0 := h.row.lt
  have f1 := Fr.refl none' w
  have r4 := row_alloc w #[.pointer (some ⟨p, 0, none⟩)] 33
  replace h := h.alloc (.cells #[.pointer (some ⟨p, 0, none⟩)] 33)
  replace f1 := f1.alloc (.cells #[.pointer (some ⟨p, 0, none⟩)] 33)
  have r5 := row_alloc2 w (.cells #[.pointer (some ⟨p, 0, none⟩)] 33) #[.int .i64 vm, .int .i64 sd, .int .i64 first, .int .i64 second] 63
  replace r4 := r4.alloc (.cells #[.int .i64 vm, .int .i64 sd, .int .i64 first, .int .i64 second] 63)
  replace h := h.alloc (.cells #[.int .i64 vm, .int .i64 sd, .int .i64 first, .int .i64 second] 63)
  replace f1 := f1.alloc (.cells #[.int .i64 vm, .int .i64 sd, .int .i64 first, .int .i64 second] 63)
  have r10 := row_alloc3 w (.cells #[.pointer (some ⟨p, 0, none⟩)] 33) (.cells #[.int .i64 vm, .int .i64 sd, .int .i64 first, .int .i64 second] 63) #[.int .i64 0, .int .i64 0, .int .i64 0, .bool false, .int .i64 0] 50
  replace r4 := r4.alloc (.cells #[.int .i64 0, .int .i64 0, .int .i64 0, .bool false, .int .i64 0] 50)
  replace r5 := r5.alloc (.cells #[.int .i64 0, .int .i64 0, .int .i64 0, .bool false, .int .i64 0] 50)
  replace h := h.alloc (.cells #[.int .i64 0, .int .i64 0, .int .i64 0, .bool false, .int .i64 0] 50)
  replace f1 := f1.alloc (.cells #[.int .i64 0, .int .i64 0, .int .i64 0, .bool false, .int .i64 0] 50)
  have r12 := row_alloc4 w (.cells #[.pointer (some ⟨p, 0, none⟩)] 33) (.cells #[.int .i64 vm, .int .i64 sd, .int .i64 first, .int .i64 second] 63) (.cells #[.int .i64 0, .int .i64 0, .int .i64 0, .bool false, .int .i64 0] 50) #[.pointer (some ⟨p, 0, none⟩), .int .i64 1, .int .i64 0, .int .i64 page] 146
  replace r4 := r4.alloc (.cells #[.pointer (some ⟨p, 0, none⟩), .int .i64 1, .int .i64 0, .int .i64 page] 146)
  replace r5 := r5.alloc (.cells #[.pointer (some ⟨p, 0, none⟩), .int .i64 1, .int .i64 0, .int .i64 page] 146)
  replace r10 := r10.alloc (.cells #[.pointer (some ⟨p, 0, none⟩), .int .i64 1, .int .i64 0, .int .i64 page] 146)
  replace h := h.alloc (.cells #[.pointer (some ⟨p, 0, none⟩), .int .i64 1, .int .i64 0, .int .i64 page] 146)
  replace f1 := f1.alloc (.cells #[.pointer (some ⟨p, 0, none⟩), .int .i64 1, .int .i64 0, .int .i64 page] 146)
  have hg := lies_guest _ (w.heap.size + 1 + 1 + 1) p bf nf _ _ bs vm sd first second h r4 r5 (by omega) (by omega) (by omega) (by omega)
  have hd := ndesc_yes _ (w.heap.size + 1 + 1 + 1) p bf nf bs first second page _ _ h r12 (by omega) (by omega) hg hp hk (by rw [hy]; exact hj)
  rw [hy] at hd
  clear hy hk hj
  clear hg hp0 hb0
  have d0 := r4.cell 0
  obtain ⟨c1x0, c1x1, c1x2, c1x3⟩ := row4 r5
  go_enter Tryz.func180, Tryz.ntmps180
  go_wp2_with fail
  refine (isPage_any _ _).mono ?_
  rintro e v1 ⟨rfl, rfl⟩
  rw [hp]
  go_wp2_with fail
  refine (isRight_any _ _).mono ?_
  rintro e v2 ⟨rfl, rfl⟩
  rw [hw]
  go_wp2_with fail
  refine hd.mono ?_
  rintro e v1 ⟨rfl, g1, s1⟩
  clear hd
  clear d0 c1x0 c1x1 c1x2 c1x3
  replace r4 := r4.keep g1 (show _ ≠ _ by omega)
  replace r5 := r5.keep g1 (show _ ≠ _ by omega)
  replace r10 := r10.keep g1 (show _ ≠ _ by omega)
  replace h := h.keep g1 (show _ ≠ _ by have := n1.out; omega) (show _ ≠ _ by have := n2.out; omega)
  replace f1 := f1.newerS g1 (by omega)
  replace r12 : Row _ _ _ _ := s1
  have l1 : Hid (w.heap.size + 1 + 1 + 1 < v1.heap.size) := r12.lt
  clear g1 s1
  have r13 := row_alloc v1 #[.bool true, .bool true, .int .i64 y.ri, .int .i64 y.fr] 71
  replace r4 := r4.alloc (.cells #[.bool true, .bool true, .int .i64 y.ri, .int .i64 y.fr] 71)
  replace r5 := r5.alloc (.cells #[.bool true, .bool true, .int .i64 y.ri, .int .i64 y.fr] 71)
  replace r10 := r10.alloc (.cells #[.bool true, .bool true, .int .i64 y.ri, .int .i64 y.fr] 71)
  replace r12 := r12.alloc (.cells #[.bool true, .bool true, .int .i64 y.ri, .int .i64 y.fr] 71)
  replace h := h.alloc (.cells #[.bool true, .bool true, .int .i64 y.ri, .int .i64 y.fr] 71)
  replace f1 := f1.alloc (.cells #[.bool true, .bool true, .int .i64 y.ri, .int .i64 y.fr] 71)
  obtain ⟨c2x0, c2x1, c2x2, c2x3, c2x4⟩ := cells5 r10
  obtain ⟨z3x0, z3x1, z3x2, z3x3, z3x4⟩ := frozen5 r10
  go_wp2_with fail
  clear c2x0 c2x1 c2x2 c2x3 c2x4 z3x0 z3x1 z3x2 z3x3 z3x4
  have l2 := l1.out
  have m1 := n1.out
  have m2 := n2.out
  replace r4 := r4.past5 (b' := w.heap.size + 1 + 1) (by omega) (.int .i64 0) (.int .i64 0) (.int .i64 0) (.bool false) (.int .i64 0)
  replace r5 := r5.past5 (b' := w.heap.size + 1 + 1) (by omega) (.int .i64 0) (.int .i64 0) (.int .i64 0) (.bool false) (.int .i64 0)
  replace r12 := r12.past5 (b' := w.heap.size + 1 + 1) (by omega) (.int .i64 0) (.int .i64 0) (.int .i64 0) (.bool false) (.int .i64 0)
  replace r13 := r13.past5 (b' := w.heap.size + 1 + 1) (by omega) (.int .i64 0) (.int .i64 0) (.int .i64 0) (.bool false) (.int .i64 0)
  replace r10 := r10.put5 (.int .i64 0) (.int .i64 0) (.int .i64 0) (.bool false) (.int .i64 0)
  replace h := h.put5 (b := w.heap.size + 1 + 1) (by omega) (by omega) (.int .i64 0) (.int .i64 0) (.int .i64 0) (.bool false) (.int .i64 0)
  replace f1 := f1.put5 (b := w.heap.size + 1 + 1) (Or.inl (by omega)) (.int .i64 0) (.int .i64 0) (.int .i64 0) (.bool false) (.int .i64 0)
  unfold put5 at r4 r5 r10 r12 r13 h f1
  clear l2 m1 m2
  refine (none_any ⟨0, 0, 0, false, 0⟩ _).mono ?_
  rintro e v2 ⟨rfl, g2⟩
  replace r4 := r4.keep g2 (fun h => h)
  replace r5 := r5.keep g2 (fun h => h)
  replace r10 := r10.keep g2 (fun h => h)
  replace r12 := r12.keep g2 (fun h => h)
  replace r13 := r13.keep g2 (fun h => h)
  replace h := h.keep g2 (fun h => h) (fun h => h)
  replace f1 := f1.trans g2
  clear g2
  obtain ⟨c4x0, c4x1, c4x2, c4x3⟩ := row4 r13
  have d5 := r4.cell 0
  obtain ⟨c6x0, c6x1, c6x2, c6x3⟩ := row4 r5
  go_wp2_with fail
  refine (hs _ h).mono ?_
  rintro e v3 ⟨rfl, g3⟩
  clear c4x0 c4x1 c4x2 c4x3 d5 c6x0 c6x1 c6x2 c6x3
  replace r4 := r4.keep g3 (fun h => h)
  replace r5 := r5.keep g3 (fun h => h)
  replace r10 := r10.keep g3 (fun h => h)
  replace r12 := r12.keep g3 (fun h => h)
  replace r13 := r13.keep g3 (fun h => h)
  replace h := h.keep g3 (fun h => h) (fun h => h)
  replace f1 := f1.trans g3
  clear g3
  clear h r4 r5 r12
  obtain ⟨c7x0, c7x1, c7x2, c7x3, c7x4⟩ := cells5 r10
  obtain ⟨z8x0, z8x1, z8x2, z8x3, z8x4⟩ := frozen5 r10
  go_wp2_with fail
  clear c7x0 c7x1 c7x2 c7x3 c7x4 z8x0 z8x1 z8x2 z8x3 z8x4
  have l2 := l1.out
  replace r13 := r13.past5 (b' := w.heap.size + 1 + 1) (by omega) (.int .i64 z.ft.k) (.int .i64 z.ft.s) (.int .i64 z.ft.l) (.bool z.ft.wk) (.int .i64 z.ft.p)
  replace r10 := r10.put5 (.int .i64 z.ft.k) (.int .i64 z.ft.s) (.int .i64 z.ft.l) (.bool z.ft.wk) (.int .i64 z.ft.p)
  replace f1 := f1.put5 (b := w.heap.size + 1 + 1) (Or.inl (by omega)) (.int .i64 z.ft.k) (.int .i64 z.ft.s) (.int .i64 z.ft.l) (.bool z.ft.wk) (.int .i64 z.ft.p)
  unfold put5 at r10 r13 f1
  clear l1 l2
  generalize hWW1 : (((((v3.setCell ⟨w.heap.size + 1 + 1, 0, none⟩ (.int .i64 z.ft.k)).setCell ⟨w.heap.size + 1 + 1, 1, none⟩ (.int .i64 z.ft.s)).setCell ⟨w.heap.size + 1 + 1, 2, none⟩ (.int .i64 z.ft.l)).setCell ⟨w.heap.size + 1 + 1, 3, none⟩ (.bool z.ft.wk)).setCell ⟨w.heap.size + 1 + 1, 4, none⟩ (.int .i64 z.ft.p)) = W1 at r10 r13 f1 ⊢
  clear hWW1
  obtain ⟨c9x0, c9x1, c9x2, c9x3, c9x4⟩ := cells5 r10
  obtain ⟨z10x0, z10x1, z10x2, z10x3, z10x4⟩ := frozen5 r10
  obtain ⟨c11x0, c11x1, c11x2, c11x3⟩ := row4 r13
  go_region
  go_wp2_with fail
  refine bodyPost_ret (ret_ttf rfl rfl (r10.put5 _ _ _ _ _).drew rfl) rfl ?_
  exact ⟨rfl, (f1.put5 (Or.inl (by omega)) _ _ _ _ _).drew⟩

theorem nested_any (w : World) (p bf nf : Nat) (bs : List UInt8) (vm sd first second page want : Int) (h : IsRam w p bf nf bs) :
    Calls Tryz.prog 180 #[.pointer (some ⟨p, 0, none⟩), .agg #[.int .i64 vm, .int .i64 sd, .int .i64 first, .int .i64 second], .int .i64 page, .int .i64 want] w fun e w' => e = .returned (.tuple #[.int .i64 (nested bs nf first second page want).fr, .int .i64 (nested bs nf first second page want).ri, .agg #[.int .i64 (nested bs nf first second page want).ft.k, .int .i64 (nested bs nf first second page want).ft.s, .int .i64 (nested bs nf first second page want).ft.l, .bool (nested bs nf first second page want).ft.wk, .int .i64 (nested bs nf first second page want).ft.p]]) ∧ Fr none' w w' := by
  cases hp : isP page with
  | false =>
    have e : nested bs nf first second page want = miss 3 0 0 false 0 := by unfold nested; rw [if_pos (Or.inl hp)]
    rw [e]
    exact nested_p w p vm sd first second page want hp
  | true =>
    cases hw : isR want with
    | false =>
      have e : nested bs nf first second page want = miss 3 0 0 false 0 := by unfold nested; rw [if_pos (Or.inr hw)]
      rw [e]
      exact nested_w w p vm sd first second page want hp hw
    | true =>
      have e0 : ¬ (isP page = false ∨ isR want = false) := by simp [hp, hw]
      unfold nested
      rw [if_neg e0]
      by_cases hf : first < 0
      · rw [if_pos hf]
        exact nested_plain w p bf nf bs vm sd first second page want h hp hw hf _ rfl
      · rw [if_neg hf]
        by_cases h1 : (guest bs nf second first page 0).ft.k = 0
        · rw [if_neg (by simpa using h1)]
          by_cases h2 : (guest bs nf second (guest bs nf second first page 0).fr page 1).ft.k = 0
          · rw [if_neg (by simpa using h2)]
            by_cases h3 : bits .and .i64 (guest bs nf second (guest bs nf second first page 0).fr page 1).ri want = 0
            · rw [if_pos h3]
              exact nested_no w p bf nf bs vm sd first second page want h hp hw hf h1 _ rfl h2 h3
            · rw [if_neg h3]
              exact nested_fin w p bf nf bs vm sd first second page want h hp hw hf h1 _ rfl h2 h3 _ rfl
          · rw [if_pos h2, (guest_zero _ _ _ _ _ _ h2).1, (guest_zero _ _ _ _ _ _ h2).2]
            exact nested_g1 w p bf nf bs vm sd first second page want h hp hw hf h1 _ rfl h2
        · rw [if_pos h1, (guest_zero _ _ _ _ _ _ h1).1, (guest_zero _ _ _ _ _ _ h1).2]
          exact nested_g0 w p bf nf bs vm sd first second page want h hp hw hf _ rfl h1

end Go.Proofs.YtgnoakidjnilpaaGreat

/- WalkReachC -/
namespace Go.Proofs.YtgnoakidjnilpaaGreat
open Go.RowKit

set_option maxHeartbeats 2000000 in
theorem reach_hit (w : World) (p bf nf : Nat) (bs : List UInt8) (bt : Nat) (T : Nat → Ln) (fo mi vm sd first second page want ix : Int) (h : IsRam w p bf nf bs) (hT : IsTlb w bt T fo mi) (hfo : 0 ≤ fo ∧ fo < 1000000) (hmi : 0 ≤ mi ∧ mi < 1000000) (n1 : p ≠ bt) (n2 : bf ≠ bt) (h1 : ansB (idx T vm sd page 8) = true) (h2 : isR want = true) (h3 : bits .and .i64 (ansR T (idx T vm sd page 8)) want ≠ 0) :
    Calls Tryz.prog 158 #[.pointer (some ⟨p, 0, none⟩), .pointer (some ⟨bt, 0, none⟩), .agg #[.int .i64 vm, .int .i64 sd, .int .i64 first, .int .i64 second], .int .i64 page, .int .i64 want, .int .i64 ix] w fun e w' => e = .returned (.tuple #[.int .i64 (ansF T (idx T vm sd page 8)), .agg #[.int .i64 0, .int .i64 0, .int .i64 0, .bool false, .int .i64 0]]) ∧ Fr (at' bt) w w' ∧ IsTlb w' bt T (fo + moreF (idx T vm sd page 8)) (mi + moreM (idx T vm sd page 8)) := by
  have f1 := Fr.refl (at' bt) w
  have lt := hT.lt
  have t3 : (bits .and .i64 (ansR T (idx T vm sd page 8)) want != 0) = true := by simp [h3]
  clear h3
  have r8 := row_alloc w #[.int .i64 vm, .int .i64 sd, .int .i64 first, .int .i64 second] 63
  replace hT := hT.alloc (.cells #[.int .i64 vm, .int .i64 sd, .int .i64 first, .int .i64 second] 63)
  replace h := h.alloc (.cells #[.int .i64 vm, .int .i64 sd, .int .i64 first, .int .i64 second] 63)
  replace f1 := f1.alloc (.cells #[.int .i64 vm, .int .i64 sd, .int .i64 first, .int .i64 second] 63)
  have r13 := row_alloc2 w (.cells #[.int .i64 vm, .int .i64 sd, .int .i64 first, .int .i64 second] 63) #[.int .i64 0, .int .i64 0, .int .i64 0, .bool false, .int .i64 0] 50
  replace hT := hT.alloc (.cells #[.int .i64 0, .int .i64 0, .int .i64 0, .bool false, .int .i64 0] 50)
  replace r8 := r8.alloc (.cells #[.int .i64 0, .int .i64 0, .int .i64 0, .bool false, .int .i64 0] 50)
  replace h := h.alloc (.cells #[.int .i64 0, .int .i64 0, .int .i64 0, .bool false, .int .i64 0] 50)
  replace f1 := f1.alloc (.cells #[.int .i64 0, .int .i64 0, .int .i64 0, .bool false, .int .i64 0] 50)
  obtain ⟨c0x0, c0x1, c0x2, c0x3⟩ := row4 r8
  have lt2 : Hid (bt < w.heap.size) := lt
  clear lt
  go_enter Tryz.func158, Tryz.ntmps158
  go_wp2_with fail
  refine (find_any _ _ _ _ _ _ _ _ hT hfo hmi).mono ?_
  rintro e v1 ⟨rfl, g1, hT1⟩
  clear c0x0 c0x1 c0x2 c0x3
  have lt := lt2.out
  replace r8 := r8.keep g1 (show _ ≠ _ by omega)
  replace r13 := r13.keep g1 (show _ ≠ _ by omega)
  replace h := h.keep g1 n1 n2
  replace f1 := f1.trans g1
  clear hT g1 lt
  rw [h1]
  go_wp2_with fail
  refine (isRight_any _ _).mono ?_
  rintro e v2 ⟨rfl, rfl⟩
  rw [h2]
  obtain ⟨c1x0, c1x1, c1x2, c1x3, c1x4⟩ := cells5 r13
  obtain ⟨z2x0, z2x1, z2x2, z2x3, z2x4⟩ := frozen5 r13
  go_wp2_with fail
  refine bodyPost_ret (ret_tf rfl rfl (r13.put5 _ _ _ _ _) rfl) rfl ?_
  exact ⟨rfl, f1.put5 (Or.inl (by omega)) _ _ _ _ _, hT1.keep ((Fr.refl (at' (w.heap.size + 1)) _).put5 (Or.inr rfl) _ _ _ _ _) (show _ ≠ _ by have := lt2.out; omega)⟩

set_option maxHeartbeats 4000000 in
theorem reach_ano (w : World) (p bf nf : Nat) (bs : List UInt8) (bt : Nat) (T : Nat → Ln) (fo mi vm sd first second page want ix : Int) (h : IsRam w p bf nf bs) (hT : IsTlb w bt T fo mi) (hfo : 0 ≤ fo ∧ fo < 1000000) (hmi : 0 ≤ mi ∧ mi < 1000000) (n1 : p ≠ bt) (n2 : bf ≠ bt) (h1 : ansB (idx T vm sd page 8) = false) (x : Res) (hx : nested bs nf first second page want = x) (hk : x.ft.k ≠ 0) :
    Calls Tryz.prog 158 #[.pointer (some ⟨p, 0, none⟩), .pointer (some ⟨bt, 0, none⟩), .agg #[.int .i64 vm, .int .i64 sd, .int .i64 first, .int .i64 second], .int .i64 page, .int .i64 want, .int .i64 ix] w fun e w' => e = .returned (.tuple #[.int .i64 x.fr, .agg #[.int .i64 x.ft.k, .int .i64 x.ft.s, .int .i64 x.ft.l, .bool x.ft.wk, .int .i64 x.ft.p]]) ∧ Fr (at' bt) w w' ∧ IsTlb w' bt T (fo + moreF (idx T vm sd page 8)) (mi + moreM (idx T vm sd page 8)) := by
  have hs := fun w0 h0 => nested_any w0 p bf nf bs vm sd first second page want h0
  rw [hx] at hs
  have t4 : (x.ft.k == 0) = false := by simp [hk]
  clear hx hk
  have f1 := Fr.refl (at' bt) w
  have lt := hT.lt
  have r8 := row_alloc w #[.int .i64 vm, .int .i64 sd, .int .i64 first, .int .i64 second] 63
  replace hT := hT.alloc (.cells #[.int .i64 vm, .int .i64 sd, .int .i64 first, .int .i64 second] 63)
  replace h := h.alloc (.cells #[.int .i64 vm, .int .i64 sd, .int .i64 first, .int .i64 second] 63)
  replace f1 := f1.alloc (.cells #[.int .i64 vm, .int .i64 sd, .int .i64 first, .int .i64 second] 63)
  have r13 := row_alloc2 w (.cells #[.int .i64 vm, .int .i64 sd, .int .i64 first, .int .i64 second] 63) #[.int .i64 0, .int .i64 0, .int .i64 0, .bool false, .int .i64 0] 50
  replace hT := hT.alloc (.cells #[.int .i64 0, .int .i64 0, .int .i64 0, .bool false, .int .i64 0] 50)
  replace r8 := r8.alloc (.cells #[.int .i64 0, .int .i64 0, .int .i64 0, .bool false, .int .i64 0] 50)
  replace h := h.alloc (.cells #[.int .i64 0, .int .i64 0, .int .i64 0, .bool false, .int .i64 0] 50)
  replace f1 := f1.alloc (.cells #[.int .i64 0, .int .i64 0, .int .i64 0, .bool false, .int .i64 0] 50)
  obtain ⟨c0x0, c0x1, c0x2, c0x3⟩ := row4 r8
  have lt2 : Hid (bt < w.heap.size) := lt
  clear lt
  go_enter Tryz.func158, Tryz.ntmps158
  go_wp2_with fail
  refine (find_any _ _ _ _ _ _ _ _ hT hfo hmi).mono ?_
  rintro e v1 ⟨rfl, g1, hT1⟩
  clear c0x0 c0x1 c0x2 c0x3
  have lt := lt2.out
  replace r8 := r8.keep g1 (show _ ≠ _ by omega)
  replace r13 := r13.keep g1 (show _ ≠ _ by omega)
  replace h := h.keep g1 n1 n2
  replace f1 := f1.trans g1
  clear hT g1 lt
  rw [h1]
  obtain ⟨c1x0, c1x1, c1x2, c1x3⟩ := row4 r8
  go_wp2_with fail
  refine (hs _ h).mono ?_
  rintro e v2 ⟨rfl, g2⟩
  clear c1x0 c1x1 c1x2 c1x3
  replace hT1 := hT1.keep g2 (fun h => h)
  replace r8 := r8.keep g2 (fun h => h)
  replace r13 := r13.keep g2 (fun h => h)
  replace h := h.keep g2 (fun h => h) (fun h => h)
  replace f1 := f1.trans (g2.mono (fun _ _ h => h.elim))
  clear g2
  clear h hs
  have l5 : Hid (bt < v2.heap.size ∧ w.heap.size + 1 < v2.heap.size) := ⟨hT1.lt, r13.lt⟩
  have r17 := row_alloc v2 #[.int .i64 x.ft.k, .int .i64 x.ft.s, .int .i64 x.ft.l, .bool x.ft.wk, .int .i64 x.ft.p] 50
  replace hT1 := hT1.alloc (.cells #[.int .i64 x.ft.k, .int .i64 x.ft.s, .int .i64 x.ft.l, .bool x.ft.wk, .int .i64 x.ft.p] 50)
  replace r8 := r8.alloc (.cells #[.int .i64 x.ft.k, .int .i64 x.ft.s, .int .i64 x.ft.l, .bool x.ft.wk, .int .i64 x.ft.p] 50)
  replace r13 := r13.alloc (.cells #[.int .i64 x.ft.k, .int .i64 x.ft.s, .int .i64 x.ft.l, .bool x.ft.wk, .int .i64 x.ft.p] 50)
  replace f1 := f1.alloc (.cells #[.int .i64 x.ft.k, .int .i64 x.ft.s, .int .i64 x.ft.l, .bool x.ft.wk, .int .i64 x.ft.p] 50)
  obtain ⟨c2x0, c2x1, c2x2, c2x3, c2x4⟩ := cells5 r17
  go_wp2_with fail
  refine (none_any x.ft _).mono ?_
  rintro e v3 ⟨rfl, g3⟩
  clear c2x0 c2x1 c2x2 c2x3 c2x4
  rw [t4]
  replace hT1 := hT1.keep g3 (fun h => h)
  replace r8 := r8.keep g3 (fun h => h)
  replace r13 := r13.keep g3 (fun h => h)
  replace r17 := r17.keep g3 (fun h => h)
  replace f1 := f1.trans (g3.mono (fun _ _ h => h.elim))
  clear g3
  obtain ⟨c3x0, c3x1, c3x2, c3x3, c3x4⟩ := cells5 r17
  obtain ⟨c4x0, c4x1, c4x2, c4x3, c4x4⟩ := cells5 r13
  obtain ⟨z5x0, z5x1, z5x2, z5x3, z5x4⟩ := frozen5 r13
  go_wp2_with fail
  go_region
  go_wp2_with fail
  refine bodyPost_ret (ret_tf rfl rfl (r13.put5 _ _ _ _ _).drew rfl) rfl ?_
  exact ⟨rfl, (f1.put5 (Or.inl (by omega)) _ _ _ _ _).drew, hT1.keep ((Fr.refl (at' (w.heap.size + 1)) _).put5 (Or.inr rfl) _ _ _ _ _).drew (show _ ≠ _ by have := lt2.out; omega)⟩

set_option maxHeartbeats 4000000 in
theorem reach_aok (w : World) (p bf nf : Nat) (bs : List UInt8) (bt : Nat) (T : Nat → Ln) (fo mi vm sd first second page want ix : Int) (h : IsRam w p bf nf bs) (hT : IsTlb w bt T fo mi) (hfo : 0 ≤ fo ∧ fo < 1000000) (hmi : 0 ≤ mi ∧ mi < 1000000) (n1 : p ≠ bt) (n2 : bf ≠ bt) (h1 : ansB (idx T vm sd page 8) = false) (x : Res) (hx : nested bs nf first second page want = x) (hk : x.ft.k = 0) :
    Calls Tryz.prog 158 #[.pointer (some ⟨p, 0, none⟩), .pointer (some ⟨bt, 0, none⟩), .agg #[.int .i64 vm, .int .i64 sd, .int .i64 first, .int .i64 second], .int .i64 page, .int .i64 want, .int .i64 ix] w fun e w' => e = .returned (.tuple #[.int .i64 x.fr, .agg #[.int .i64 x.ft.k, .int .i64 x.ft.s, .int .i64 x.ft.l, .bool x.ft.wk, .int .i64 x.ft.p]]) ∧ Fr (at' bt) w w' ∧ IsTlb w' bt (fillT T ix ⟨vm, sd, page, x.fr, x.ri⟩) (fo + moreF (idx T vm sd page 8)) (mi + moreM (idx T vm sd page 8)) := by
  have hs := fun w0 h0 => nested_any w0 p bf nf bs vm sd first second page want h0
  rw [hx] at hs
  have t4 : (x.ft.k == 0) = true := by simp [hk]
  clear hx hk
  have f1 := Fr.refl (at' bt) w
  have lt := hT.lt
  have r8 := row_alloc w #[.int .i64 vm, .int .i64 sd, .int .i64 first, .int .i64 second] 63
  replace hT := hT.alloc (.cells #[.int .i64 vm, .int .i64 sd, .int .i64 first, .int .i64 second] 63)
  replace h := h.alloc (.cells #[.int .i64 vm, .int .i64 sd, .int .i64 first, .int .i64 second] 63)
  replace f1 := f1.alloc (.cells #[.int .i64 vm, .int .i64 sd, .int .i64 first, .int .i64 second] 63)
  have r13 := row_alloc2 w (.cells #[.int .i64 vm, .int .i64 sd, .int .i64 first, .int .i64 second] 63) #[.int .i64 0, .int .i64 0, .int .i64 0, .bool false, .int .i64 0] 50
  replace hT := hT.alloc (.cells #[.int .i64 0, .int .i64 0, .int .i64 0, .bool false, .int .i64 0] 50)
  replace r8 := r8.alloc (.cells #[.int .i64 0, .int .i64 0, .int .i64 0, .bool false, .int .i64 0] 50)
  replace h := h.alloc (.cells #[.int .i64 0, .int .i64 0, .int .i64 0, .bool false, .int .i64 0] 50)
  replace f1 := f1.alloc (.cells #[.int .i64 0, .int .i64 0, .int .i64 0, .bool false, .int .i64 0] 50)
  obtain ⟨c0x0, c0x1, c0x2, c0x3⟩ := row4 r8
  have lt2 : Hid (bt < w.heap.size) := lt
  clear lt
  go_enter Tryz.func158, Tryz.ntmps158
  go_wp2_with fail
  refine (find_any _ _ _ _ _ _ _ _ hT hfo hmi).mono ?_
  rintro e v1 ⟨rfl, g1, hT1⟩
  clear c0x0 c0x1 c0x2 c0x3
  have lt := lt2.out
  replace r8 := r8.keep g1 (show _ ≠ _ by omega)
  replace r13 := r13.keep g1 (show _ ≠ _ by omega)
  replace h := h.keep g1 n1 n2
  replace f1 := f1.trans g1
  clear hT g1 lt
  rw [h1]
  obtain ⟨c1x0, c1x1, c1x2, c1x3⟩ := row4 r8
  go_wp2_with fail
  refine (hs _ h).mono ?_
  rintro e v2 ⟨rfl, g2⟩
  clear c1x0 c1x1 c1x2 c1x3
  replace hT1 := hT1.keep g2 (fun h => h)
  replace r8 := r8.keep g2 (fun h => h)
  replace r13 := r13.keep g2 (fun h => h)
  replace h := h.keep g2 (fun h => h) (fun h => h)
  replace f1 := f1.trans (g2.mono (fun _ _ h => h.elim))
  clear g2
  clear h hs
  have l5 : Hid (bt < v2.heap.size ∧ w.heap.size + 1 < v2.heap.size) := ⟨hT1.lt, r13.lt⟩
  have r17 := row_alloc v2 #[.int .i64 x.ft.k, .int .i64 x.ft.s, .int .i64 x.ft.l, .bool x.ft.wk, .int .i64 x.ft.p] 50
  replace hT1 := hT1.alloc (.cells #[.int .i64 x.ft.k, .int .i64 x.ft.s, .int .i64 x.ft.l, .bool x.ft.wk, .int .i64 x.ft.p] 50)
  replace r8 := r8.alloc (.cells #[.int .i64 x.ft.k, .int .i64 x.ft.s, .int .i64 x.ft.l, .bool x.ft.wk, .int .i64 x.ft.p] 50)
  replace r13 := r13.alloc (.cells #[.int .i64 x.ft.k, .int .i64 x.ft.s, .int .i64 x.ft.l, .bool x.ft.wk, .int .i64 x.ft.p] 50)
  replace f1 := f1.alloc (.cells #[.int .i64 x.ft.k, .int .i64 x.ft.s, .int .i64 x.ft.l, .bool x.ft.wk, .int .i64 x.ft.p] 50)
  obtain ⟨c2x0, c2x1, c2x2, c2x3, c2x4⟩ := cells5 r17
  go_wp2_with fail
  refine (none_any x.ft _).mono ?_
  rintro e v3 ⟨rfl, g3⟩
  clear c2x0 c2x1 c2x2 c2x3 c2x4
  rw [t4]
  replace hT1 := hT1.keep g3 (fun h => h)
  replace r8 := r8.keep g3 (fun h => h)
  replace r13 := r13.keep g3 (fun h => h)
  replace r17 := r17.keep g3 (fun h => h)
  replace f1 := f1.trans (g3.mono (fun _ _ h => h.elim))
  clear g3
  obtain ⟨c3x0, c3x1, c3x2, c3x3⟩ := row4 r8
  go_wp2_with fail
  refine (fill_any _ _ _ _ _ hT1 ix ⟨vm, sd, page, x.fr, x.ri⟩).mono ?_
  rintro e v9 ⟨rfl, g9, hT9⟩
  clear c3x0 c3x1 c3x2 c3x3
  have lt := lt2.out
  have l6 := l5.out
  replace r13 := r13.keep g9 (show _ ≠ _ by omega)
  replace r17 := r17.keep g9 (show _ ≠ _ by omega)
  replace f1 := f1.trans g9
  clear hT1 g9 lt l6 r8
  obtain ⟨c4x0, c4x1, c4x2, c4x3, c4x4⟩ := cells5 r17
  obtain ⟨c5x0, c5x1, c5x2, c5x3, c5x4⟩ := cells5 r13
  obtain ⟨z6x0, z6x1, z6x2, z6x3, z6x4⟩ := frozen5 r13
  go_wp2_with fail
  go_region
  go_wp2_with fail
  refine bodyPost_ret (ret_tf rfl rfl (r13.put5 _ _ _ _ _).drew rfl) rfl ?_
  exact ⟨rfl, (f1.put5 (Or.inl (by omega)) _ _ _ _ _).drew, hT9.keep ((Fr.refl (at' (w.heap.size + 1)) _).put5 (Or.inr rfl) _ _ _ _ _).drew (show _ ≠ _ by have := lt2.out; omega)⟩

set_option maxHeartbeats 4000000 in
theorem reach_bno (w : World) (p bf nf : Nat) (bs : List UInt8) (bt : Nat) (T : Nat → Ln) (fo mi vm sd first second page want ix : Int) (h : IsRam w p bf nf bs) (hT : IsTlb w bt T fo mi) (hfo : 0 ≤ fo ∧ fo < 1000000) (hmi : 0 ≤ mi ∧ mi < 1000000) (n1 : p ≠ bt) (n2 : bf ≠ bt) (h1 : ansB (idx T vm sd page 8) = true) (h2 : isR want = false) (x : Res) (hx : nested bs nf first second page want = x) (hk : x.ft.k ≠ 0) :
    Calls Tryz.prog 158 #[.pointer (some ⟨p, 0, none⟩), .pointer (some ⟨bt, 0, none⟩), .agg #[.int .i64 vm, .int .i64 sd, .int .i64 first, .int .i64 second], .int .i64 page, .int .i64 want, .int .i64 ix] w fun e w' => e = .returned (.tuple #[.int .i64 x.fr, .agg #[.int .i64 x.ft.k, .int .i64 x.ft.s, .int .i64 x.ft.l, .bool x.ft.wk, .int .i64 x.ft.p]]) ∧ Fr (at' bt) w w' ∧ IsTlb w' bt T (fo + moreF (idx T vm sd page 8)) (mi + moreM (idx T vm sd page 8)) := by
  have hs := fun w0 h0 => nested_any w0 p bf nf bs vm sd first second page want h0
  rw [hx] at hs
  have t4 : (x.ft.k == 0) = false := by simp [hk]
  clear hx hk
  have f1 := Fr.refl (at' bt) w
  have lt := hT.lt
  have r8 := row_alloc w #[.int .i64 vm, .int .i64 sd, .int .i64 first, .int .i64 second] 63
  replace hT := hT.alloc (.cells #[.int .i64 vm, .int .i64 sd, .int .i64 first, .int .i64 second] 63)
  replace h := h.alloc (.cells #[.int .i64 vm, .int .i64 sd, .int .i64 first, .int .i64 second] 63)
  replace f1 := f1.alloc (.cells #[.int .i64 vm, .int .i64 sd, .int .i64 first, .int .i64 second] 63)
  have r13 := row_alloc2 w (.cells #[.int .i64 vm, .int .i64 sd, .int .i64 first, .int .i64 second] 63) #[.int .i64 0, .int .i64 0, .int .i64 0, .bool false, .int .i64 0] 50
  replace hT := hT.alloc (.cells #[.int .i64 0, .int .i64 0, .int .i64 0, .bool false, .int .i64 0] 50)
  replace r8 := r8.alloc (.cells #[.int .i64 0, .int .i64 0, .int .i64 0, .bool false, .int .i64 0] 50)
  replace h := h.alloc (.cells #[.int .i64 0, .int .i64 0, .int .i64 0, .bool false, .int .i64 0] 50)
  replace f1 := f1.alloc (.cells #[.int .i64 0, .int .i64 0, .int .i64 0, .bool false, .int .i64 0] 50)
  obtain ⟨c0x0, c0x1, c0x2, c0x3⟩ := row4 r8
  have lt2 : Hid (bt < w.heap.size) := lt
  clear lt
  go_enter Tryz.func158, Tryz.ntmps158
  go_wp2_with fail
  refine (find_any _ _ _ _ _ _ _ _ hT hfo hmi).mono ?_
  rintro e v1 ⟨rfl, g1, hT1⟩
  clear c0x0 c0x1 c0x2 c0x3
  have lt := lt2.out
  replace r8 := r8.keep g1 (show _ ≠ _ by omega)
  replace r13 := r13.keep g1 (show _ ≠ _ by omega)
  replace h := h.keep g1 n1 n2
  replace f1 := f1.trans g1
  clear hT g1 lt
  rw [h1]
  go_wp2_with fail
  refine (isRight_any _ _).mono ?_
  rintro e v2 ⟨rfl, rfl⟩
  rw [h2]
  obtain ⟨c1x0, c1x1, c1x2, c1x3⟩ := row4 r8
  go_wp2_with fail
  refine (hs _ h).mono ?_
  rintro e v3 ⟨rfl, g3⟩
  clear c1x0 c1x1 c1x2 c1x3
  replace hT1 := hT1.keep g3 (fun h => h)
  replace r8 := r8.keep g3 (fun h => h)
  replace r13 := r13.keep g3 (fun h => h)
  replace h := h.keep g3 (fun h => h) (fun h => h)
  replace f1 := f1.trans (g3.mono (fun _ _ h => h.elim))
  clear g3
  clear h hs
  have l5 : Hid (bt < v3.heap.size ∧ w.heap.size + 1 < v3.heap.size) := ⟨hT1.lt, r13.lt⟩
  have r17 := row_alloc v3 #[.int .i64 x.ft.k, .int .i64 x.ft.s, .int .i64 x.ft.l, .bool x.ft.wk, .int .i64 x.ft.p] 50
  replace hT1 := hT1.alloc (.cells #[.int .i64 x.ft.k, .int .i64 x.ft.s, .int .i64 x.ft.l, .bool x.ft.wk, .int .i64 x.ft.p] 50)
  replace r8 := r8.alloc (.cells #[.int .i64 x.ft.k, .int .i64 x.ft.s, .int .i64 x.ft.l, .bool x.ft.wk, .int .i64 x.ft.p] 50)
  replace r13 := r13.alloc (.cells #[.int .i64 x.ft.k, .int .i64 x.ft.s, .int .i64 x.ft.l, .bool x.ft.wk, .int .i64 x.ft.p] 50)
  replace f1 := f1.alloc (.cells #[.int .i64 x.ft.k, .int .i64 x.ft.s, .int .i64 x.ft.l, .bool x.ft.wk, .int .i64 x.ft.p] 50)
  obtain ⟨c2x0, c2x1, c2x2, c2x3, c2x4⟩ := cells5 r17
  go_wp2_with fail
  refine (none_any x.ft _).mono ?_
  rintro e v4 ⟨rfl, g4⟩
  clear c2x0 c2x1 c2x2 c2x3 c2x4
  rw [t4]
  replace hT1 := hT1.keep g4 (fun h => h)
  replace r8 := r8.keep g4 (fun h => h)
  replace r13 := r13.keep g4 (fun h => h)
  replace r17 := r17.keep g4 (fun h => h)
  replace f1 := f1.trans (g4.mono (fun _ _ h => h.elim))
  clear g4
  obtain ⟨c3x0, c3x1, c3x2, c3x3, c3x4⟩ := cells5 r17
  obtain ⟨c4x0, c4x1, c4x2, c4x3, c4x4⟩ := cells5 r13
  obtain ⟨z5x0, z5x1, z5x2, z5x3, z5x4⟩ := frozen5 r13
  go_wp2_with fail
  go_region
  go_wp2_with fail
  refine bodyPost_ret (ret_tf rfl rfl (r13.put5 _ _ _ _ _).drew rfl) rfl ?_
  exact ⟨rfl, (f1.put5 (Or.inl (by omega)) _ _ _ _ _).drew, hT1.keep ((Fr.refl (at' (w.heap.size + 1)) _).put5 (Or.inr rfl) _ _ _ _ _).drew (show _ ≠ _ by have := lt2.out; omega)⟩

set_option maxHeartbeats 4000000 in
theorem reach_bok (w : World) (p bf nf : Nat) (bs : List UInt8) (bt : Nat) (T : Nat → Ln) (fo mi vm sd first second page want ix : Int) (h : IsRam w p bf nf bs) (hT : IsTlb w bt T fo mi) (hfo : 0 ≤ fo ∧ fo < 1000000) (hmi : 0 ≤ mi ∧ mi < 1000000) (n1 : p ≠ bt) (n2 : bf ≠ bt) (h1 : ansB (idx T vm sd page 8) = true) (h2 : isR want = false) (x : Res) (hx : nested bs nf first second page want = x) (hk : x.ft.k = 0) :
    Calls Tryz.prog 158 #[.pointer (some ⟨p, 0, none⟩), .pointer (some ⟨bt, 0, none⟩), .agg #[.int .i64 vm, .int .i64 sd, .int .i64 first, .int .i64 second], .int .i64 page, .int .i64 want, .int .i64 ix] w fun e w' => e = .returned (.tuple #[.int .i64 x.fr, .agg #[.int .i64 x.ft.k, .int .i64 x.ft.s, .int .i64 x.ft.l, .bool x.ft.wk, .int .i64 x.ft.p]]) ∧ Fr (at' bt) w w' ∧ IsTlb w' bt (fillT T ix ⟨vm, sd, page, x.fr, x.ri⟩) (fo + moreF (idx T vm sd page 8)) (mi + moreM (idx T vm sd page 8)) := by
  have hs := fun w0 h0 => nested_any w0 p bf nf bs vm sd first second page want h0
  rw [hx] at hs
  have t4 : (x.ft.k == 0) = true := by simp [hk]
  clear hx hk
  have f1 := Fr.refl (at' bt) w
  have lt := hT.lt
  have r8 := row_alloc w #[.int .i64 vm, .int .i64 sd, .int .i64 first, .int .i64 second] 63
  replace hT := hT.alloc (.cells #[.int .i64 vm, .int .i64 sd, .int .i64 first, .int .i64 second] 63)
  replace h := h.alloc (.cells #[.int .i64 vm, .int .i64 sd, .int .i64 first, .int .i64 second] 63)
  replace f1 := f1.alloc (.cells #[.int .i64 vm, .int .i64 sd, .int .i64 first, .int .i64 second] 63)
  have r13 := row_alloc2 w (.cells #[.int .i64 vm, .int .i64 sd, .int .i64 first, .int .i64 second] 63) #[.int .i64 0, .int .i64 0, .int .i64 0, .bool false, .int .i64 0] 50
  replace hT := hT.alloc (.cells #[.int .i64 0, .int .i64 0, .int .i64 0, .bool false, .int .i64 0] 50)
  replace r8 := r8.alloc (.cells #[.int .i64 0, .int .i64 0, .int .i64 0, .bool false, .int .i64 0] 50)
  replace h := h.alloc (.cells #[.int .i64 0, .int .i64 0, .int .i64 0, .bool false, .int .i64 0] 50)
  replace f1 := f1.alloc (.cells #[.int .i64 0, .int .i64 0, .int .i64 0, .bool false, .int .i64 0] 50)
  obtain ⟨c0x0, c0x1, c0x2, c0x3⟩ := row4 r8
  have lt2 : Hid (bt < w.heap.size) := lt
  clear lt
  go_enter Tryz.func158, Tryz.ntmps158
  go_wp2_with fail
  refine (find_any _ _ _ _ _ _ _ _ hT hfo hmi).mono ?_
  rintro e v1 ⟨rfl, g1, hT1⟩
  clear c0x0 c0x1 c0x2 c0x3
  have lt := lt2.out
  replace r8 := r8.keep g1 (show _ ≠ _ by omega)
  replace r13 := r13.keep g1 (show _ ≠ _ by omega)
  replace h := h.keep g1 n1 n2
  replace f1 := f1.trans g1
  clear hT g1 lt
  rw [h1]
  go_wp2_with fail
  refine (isRight_any _ _).mono ?_
  rintro e v2 ⟨rfl, rfl⟩
  rw [h2]
  obtain ⟨c1x0, c1x1, c1x2, c1x3⟩ := row4 r8
  go_wp2_with fail
  refine (hs _ h).mono ?_
  rintro e v3 ⟨rfl, g3⟩
  clear c1x0 c1x1 c1x2 c1x3
  replace hT1 := hT1.keep g3 (fun h => h)
  replace r8 := r8.keep g3 (fun h => h)
  replace r13 := r13.keep g3 (fun h => h)
  replace h := h.keep g3 (fun h => h) (fun h => h)
  replace f1 := f1.trans (g3.mono (fun _ _ h => h.elim))
  clear g3
  clear h hs
  have l5 : Hid (bt < v3.heap.size ∧ w.heap.size + 1 < v3.heap.size) := ⟨hT1.lt, r13.lt⟩
  have r17 := row_alloc v3 #[.int .i64 x.ft.k, .int .i64 x.ft.s, .int .i64 x.ft.l, .bool x.ft.wk, .int .i64 x.ft.p] 50
  replace hT1 := hT1.alloc (.cells #[.int .i64 x.ft.k, .int .i64 x.ft.s, .int .i64 x.ft.l, .bool x.ft.wk, .int .i64 x.ft.p] 50)
  replace r8 := r8.alloc (.cells #[.int .i64 x.ft.k, .int .i64 x.ft.s, .int .i64 x.ft.l, .bool x.ft.wk, .int .i64 x.ft.p] 50)
  replace r13 := r13.alloc (.cells #[.int .i64 x.ft.k, .int .i64 x.ft.s, .int .i64 x.ft.l, .bool x.ft.wk, .int .i64 x.ft.p] 50)
  replace f1 := f1.alloc (.cells #[.int .i64 x.ft.k, .int .i64 x.ft.s, .int .i64 x.ft.l, .bool x.ft.wk, .int .i64 x.ft.p] 50)
  obtain ⟨c2x0, c2x1, c2x2, c2x3, c2x4⟩ := cells5 r17
  go_wp2_with fail
  refine (none_any x.ft _).mono ?_
  rintro e v4 ⟨rfl, g4⟩
  clear c2x0 c2x1 c2x2 c2x3 c2x4
  rw [t4]
  replace hT1 := hT1.keep g4 (fun h => h)
  replace r8 := r8.keep g4 (fun h => h)
  replace r13 := r13.keep g4 (fun h => h)
  replace r17 := r17.keep g4 (fun h => h)
  replace f1 := f1.trans (g4.mono (fun _ _ h => h.elim))
  clear g4
  obtain ⟨c3x0, c3x1, c3x2, c3x3⟩ := row4 r8
  go_wp2_with fail
  refine (fill_any _ _ _ _ _ hT1 ix ⟨vm, sd, page, x.fr, x.ri⟩).mono ?_
  rintro e v9 ⟨rfl, g9, hT9⟩
  clear c3x0 c3x1 c3x2 c3x3
  have lt := lt2.out
  have l6 := l5.out
  replace r13 := r13.keep g9 (show _ ≠ _ by omega)
  replace r17 := r17.keep g9 (show _ ≠ _ by omega)
  replace f1 := f1.trans g9
  clear hT1 g9 lt l6 r8
  obtain ⟨c4x0, c4x1, c4x2, c4x3, c4x4⟩ := cells5 r17
  obtain ⟨c5x0, c5x1, c5x2, c5x3, c5x4⟩ := cells5 r13
  obtain ⟨z6x0, z6x1, z6x2, z6x3, z6x4⟩ := frozen5 r13
  go_wp2_with fail
  go_region
  go_wp2_with fail
  refine bodyPost_ret (ret_tf rfl rfl (r13.put5 _ _ _ _ _).drew rfl) rfl ?_
  exact ⟨rfl, (f1.put5 (Or.inl (by omega)) _ _ _ _ _).drew, hT9.keep ((Fr.refl (at' (w.heap.size + 1)) _).put5 (Or.inr rfl) _ _ _ _ _).drew (show _ ≠ _ by have := lt2.out; omega)⟩

set_option maxHeartbeats 4000000 in
theorem reach_cno (w : World) (p bf nf : Nat) (bs : List UInt8) (bt : Nat) (T : Nat → Ln) (fo mi vm sd first second page want ix : Int) (h : IsRam w p bf nf bs) (hT : IsTlb w bt T fo mi) (hfo : 0 ≤ fo ∧ fo < 1000000) (hmi : 0 ≤ mi ∧ mi < 1000000) (n1 : p ≠ bt) (n2 : bf ≠ bt) (h1 : ansB (idx T vm sd page 8) = true) (h2 : isR want = true) (h3 : bits .and .i64 (ansR T (idx T vm sd page 8)) want = 0) (x : Res) (hx : nested bs nf first second page want = x) (hk : x.ft.k ≠ 0) :
    Calls Tryz.prog 158 #[.pointer (some ⟨p, 0, none⟩), .pointer (some ⟨bt, 0, none⟩), .agg #[.int .i64 vm, .int .i64 sd, .int .i64 first, .int .i64 second], .int .i64 page, .int .i64 want, .int .i64 ix] w fun e w' => e = .returned (.tuple #[.int .i64 x.fr, .agg #[.int .i64 x.ft.k, .int .i64 x.ft.s, .int .i64 x.ft.l, .bool x.ft.wk, .int .i64 x.ft.p]]) ∧ Fr (at' bt) w w' ∧ IsTlb w' bt T (fo + moreF (idx T vm sd page 8)) (mi + moreM (idx T vm sd page 8)) := by
  have hs := fun w0 h0 => nested_any w0 p bf nf bs vm sd first second page want h0
  rw [hx] at hs
  have t4 : (x.ft.k == 0) = false := by simp [hk]
  clear hx hk
  have f1 := Fr.refl (at' bt) w
  have lt := hT.lt
  have t3 : (bits .and .i64 (ansR T (idx T vm sd page 8)) want != 0) = false := by simp [h3]
  clear h3
  have r8 := row_alloc w #[.int .i64 vm, .int .i64 sd, .int .i64 first, .int .i64 second] 63
  replace hT := hT.alloc (.cells #[.int .i64 vm, .int .i64 sd, .int .i64 first, .int .i64 second] 63)
  replace h := h.alloc (.cells #[.int .i64 vm, .int .i64 sd, .int .i64 first, .int .i64 second] 63)
  replace f1 := f1.alloc (.cells #[.int .i64 vm, .int .i64 sd, .int .i64 first, .int .i64 second] 63)
  have r13 := row_alloc2 w (.cells #[.int .i64 vm, .int .i64 sd, .int .i64 first, .int .i64 second] 63) #[.int .i64 0, .int .i64 0, .int .i64 0, .bool false, .int .i64 0] 50
  replace hT := hT.alloc (.cells #[.int .i64 0, .int .i64 0, .int .i64 0, .bool false, .int .i64 0] 50)
  replace r8 := r8.alloc (.cells #[.int .i64 0, .int .i64 0, .int .i64 0, .bool false, .int .i64 0] 50)
  replace h := h.alloc (.cells #[.int .i64 0, .int .i64 0, .int .i64 0, .bool false, .int .i64 0] 50)
  replace f1 := f1.alloc (.cells #[.int .i64 0, .int .i64 0, .int .i64 0, .bool false, .int .i64 0] 50)
  obtain ⟨c0x0, c0x1, c0x2, c0x3⟩ := row4 r8
  have lt2 : Hid (bt < w.heap.size) := lt
  clear lt
  go_enter Tryz.func158, Tryz.ntmps158
  go_wp2_with fail
  refine (find_any _ _ _ _ _ _ _ _ hT hfo hmi).mono ?_
  rintro e v1 ⟨rfl, g1, hT1⟩
  clear c0x0 c0x1 c0x2 c0x3
  have lt := lt2.out
  replace r8 := r8.keep g1 (show _ ≠ _ by omega)
  replace r13 := r13.keep g1 (show _ ≠ _ by omega)
  replace h := h.keep g1 n1 n2
  replace f1 := f1.trans g1
  clear hT g1 lt
  rw [h1]
  go_wp2_with fail
  refine (isRight_any _ _).mono ?_
  rintro e v2 ⟨rfl, rfl⟩
  rw [h2]
  obtain ⟨c1x0, c1x1, c1x2, c1x3⟩ := row4 r8
  go_wp2_with fail
  refine (hs _ h).mono ?_
  rintro e v3 ⟨rfl, g3⟩
  clear c1x0 c1x1 c1x2 c1x3
  replace hT1 := hT1.keep g3 (fun h => h)
  replace r8 := r8.keep g3 (fun h => h)
  replace r13 := r13.keep g3 (fun h => h)
  replace h := h.keep g3 (fun h => h) (fun h => h)
  replace f1 := f1.trans (g3.mono (fun _ _ h => h.elim))
  clear g3
  clear h hs
  have l5 : Hid (bt < v3.heap.size ∧ w.heap.size + 1 < v3.heap.size) := ⟨hT1.lt, r13.lt⟩
  have r17 := row_alloc v3 #[.int .i64 x.ft.k, .int .i64 x.ft.s, .int .i64 x.ft.l, .bool x.ft.wk, .int .i64 x.ft.p] 50
  replace hT1 := hT1.alloc (.cells #[.int .i64 x.ft.k, .int .i64 x.ft.s, .int .i64 x.ft.l, .bool x.ft.wk, .int .i64 x.ft.p] 50)
  replace r8 := r8.alloc (.cells #[.int .i64 x.ft.k, .int .i64 x.ft.s, .int .i64 x.ft.l, .bool x.ft.wk, .int .i64 x.ft.p] 50)
  replace r13 := r13.alloc (.cells #[.int .i64 x.ft.k, .int .i64 x.ft.s, .int .i64 x.ft.l, .bool x.ft.wk, .int .i64 x.ft.p] 50)
  replace f1 := f1.alloc (.cells #[.int .i64 x.ft.k, .int .i64 x.ft.s, .int .i64 x.ft.l, .bool x.ft.wk, .int .i64 x.ft.p] 50)
  obtain ⟨c2x0, c2x1, c2x2, c2x3, c2x4⟩ := cells5 r17
  go_wp2_with fail
  refine (none_any x.ft _).mono ?_
  rintro e v4 ⟨rfl, g4⟩
  clear c2x0 c2x1 c2x2 c2x3 c2x4
  rw [t4]
  replace hT1 := hT1.keep g4 (fun h => h)
  replace r8 := r8.keep g4 (fun h => h)
  replace r13 := r13.keep g4 (fun h => h)
  replace r17 := r17.keep g4 (fun h => h)
  replace f1 := f1.trans (g4.mono (fun _ _ h => h.elim))
  clear g4
  obtain ⟨c3x0, c3x1, c3x2, c3x3, c3x4⟩ := cells5 r17
  obtain ⟨c4x0, c4x1, c4x2, c4x3, c4x4⟩ := cells5 r13
  obtain ⟨z5x0, z5x1, z5x2, z5x3, z5x4⟩ := frozen5 r13
  go_wp2_with fail
  go_region
  go_wp2_with fail
  refine bodyPost_ret (ret_tf rfl rfl (r13.put5 _ _ _ _ _).drew rfl) rfl ?_
  exact ⟨rfl, (f1.put5 (Or.inl (by omega)) _ _ _ _ _).drew, hT1.keep ((Fr.refl (at' (w.heap.size + 1)) _).put5 (Or.inr rfl) _ _ _ _ _).drew (show _ ≠ _ by have := lt2.out; omega)⟩

set_option maxHeartbeats 4000000 in
theorem reach_cok (w : World) (p bf nf : Nat) (bs : List UInt8) (bt : Nat) (T : Nat → Ln) (fo mi vm sd first second page want ix : Int) (h : IsRam w p bf nf bs) (hT : IsTlb w bt T fo mi) (hfo : 0 ≤ fo ∧ fo < 1000000) (hmi : 0 ≤ mi ∧ mi < 1000000) (n1 : p ≠ bt) (n2 : bf ≠ bt) (h1 : ansB (idx T vm sd page 8) = true) (h2 : isR want = true) (h3 : bits .and .i64 (ansR T (idx T vm sd page 8)) want = 0) (x : Res) (hx : nested bs nf first second page want = x) (hk : x.ft.k = 0) :
    Calls Tryz.prog 158 #[.pointer (some ⟨p, 0, none⟩), .pointer (some ⟨bt, 0, none⟩), .agg #[.int .i64 vm, .int .i64 sd, .int .i64 first, .int .i64 second], .int .i64 page, .int .i64 want, .int .i64 ix] w fun e w' => e = .returned (.tuple #[.int .i64 x.fr, .agg #[.int .i64 x.ft.k, .int .i64 x.ft.s, .int .i64 x.ft.l, .bool x.ft.wk, .int .i64 x.ft.p]]) ∧ Fr (at' bt) w w' ∧ IsTlb w' bt (fillT T ix ⟨vm, sd, page, x.fr, x.ri⟩) (fo + moreF (idx T vm sd page 8)) (mi + moreM (idx T vm sd page 8)) := by
  have hs := fun w0 h0 => nested_any w0 p bf nf bs vm sd first second page want h0
  rw [hx] at hs
  have t4 : (x.ft.k == 0) = true := by simp [hk]
  clear hx hk
  have f1 := Fr.refl (at' bt) w
  have lt := hT.lt
  have t3 : (bits .and .i64 (ansR T (idx T vm sd page 8)) want != 0) = false := by simp [h3]
  clear h3
  have r8 := row_alloc w #[.int .i64 vm, .int .i64 sd, .int .i64 first, .int .i64 second] 63
  replace hT := hT.alloc (.cells #[.int .i64 vm, .int .i64 sd, .int .i64 first, .int .i64 second] 63)
  replace h := h.alloc (.cells #[.int .i64 vm, .int .i64 sd, .int .i64 first, .int .i64 second] 63)
  replace f1 := f1.alloc (.cells #[.int .i64 vm, .int .i64 sd, .int .i64 first, .int .i64 second] 63)
  have r13 := row_alloc2 w (.cells #[.int .i64 vm, .int .i64 sd, .int .i64 first, .int .i64 second] 63) #[.int .i64 0, .int .i64 0, .int .i64 0, .bool false, .int .i64 0] 50
  replace hT := hT.alloc (.cells #[.int .i64 0, .int .i64 0, .int .i64 0, .bool false, .int .i64 0] 50)
  replace r8 := r8.alloc (.cells #[.int .i64 0, .int .i64 0, .int .i64 0, .bool false, .int .i64 0] 50)
  replace h := h.alloc (.cells #[.int .i64 0, .int .i64 0, .int .i64 0, .bool false, .int .i64 0] 50)
  replace f1 := f1.alloc (.cells #[.int .i64 0, .int .i64 0, .int .i64 0, .bool false, .int .i64 0] 50)
  obtain ⟨c0x0, c0x1, c0x2, c0x3⟩ := row4 r8
  have lt2 : Hid (bt < w.heap.size) := lt
  clear lt
  go_enter Tryz.func158, Tryz.ntmps158
  go_wp2_with fail
  refine (find_any _ _ _ _ _ _ _ _ hT hfo hmi).mono ?_
  rintro e v1 ⟨rfl, g1, hT1⟩
  clear c0x0 c0x1 c0x2 c0x3
  have lt := lt2.out
  replace r8 := r8.keep g1 (show _ ≠ _ by omega)
  replace r13 := r13.keep g1 (show _ ≠ _ by omega)
  replace h := h.keep g1 n1 n2
  replace f1 := f1.trans g1
  clear hT g1 lt
  rw [h1]
  go_wp2_with fail
  refine (isRight_any _ _).mono ?_
  rintro e v2 ⟨rfl, rfl⟩
  rw [h2]
  obtain ⟨c1x0, c1x1, c1x2, c1x3⟩ := row4 r8
  go_wp2_with fail
  refine (hs _ h).mono ?_
  rintro e v3 ⟨rfl, g3⟩
  clear c1x0 c1x1 c1x2 c1x3
  replace hT1 := hT1.keep g3 (fun h => h)
  replace r8 := r8.keep g3 (fun h => h)
  replace r13 := r13.keep g3 (fun h => h)
  replace h := h.keep g3 (fun h => h) (fun h => h)
  replace f1 := f1.trans (g3.mono (fun _ _ h => h.elim))
  clear g3
  clear h hs
  have l5 : Hid (bt < v3.heap.size ∧ w.heap.size + 1 < v3.heap.size) := ⟨hT1.lt, r13.lt⟩
  have r17 := row_alloc v3 #[.int .i64 x.ft.k, .int .i64 x.ft.s, .int .i64 x.ft.l, .bool x.ft.wk, .int .i64 x.ft.p] 50
  replace hT1 := hT1.alloc (.cells #[.int .i64 x.ft.k, .int .i64 x.ft.s, .int .i64 x.ft.l, .bool x.ft.wk, .int .i64 x.ft.p] 50)
  replace r8 := r8.alloc (.cells #[.int .i64 x.ft.k, .int .i64 x.ft.s, .int .i64 x.ft.l, .bool x.ft.wk, .int .i64 x.ft.p] 50)
  replace r13 := r13.alloc (.cells #[.int .i64 x.ft.k, .int .i64 x.ft.s, .int .i64 x.ft.l, .bool x.ft.wk, .int .i64 x.ft.p] 50)
  replace f1 := f1.alloc (.cells #[.int .i64 x.ft.k, .int .i64 x.ft.s, .int .i64 x.ft.l, .bool x.ft.wk, .int .i64 x.ft.p] 50)
  obtain ⟨c2x0, c2x1, c2x2, c2x3, c2x4⟩ := cells5 r17
  go_wp2_with fail
  refine (none_any x.ft _).mono ?_
  rintro e v4 ⟨rfl, g4⟩
  clear c2x0 c2x1 c2x2 c2x3 c2x4
  rw [t4]
  replace hT1 := hT1.keep g4 (fun h => h)
  replace r8 := r8.keep g4 (fun h => h)
  replace r13 := r13.keep g4 (fun h => h)
  replace r17 := r17.keep g4 (fun h => h)
  replace f1 := f1.trans (g4.mono (fun _ _ h => h.elim))
  clear g4
  obtain ⟨c3x0, c3x1, c3x2, c3x3⟩ := row4 r8
  go_wp2_with fail
  refine (fill_any _ _ _ _ _ hT1 ix ⟨vm, sd, page, x.fr, x.ri⟩).mono ?_
  rintro e v9 ⟨rfl, g9, hT9⟩
  clear c3x0 c3x1 c3x2 c3x3
  have lt := lt2.out
  have l6 := l5.out
  replace r13 := r13.keep g9 (show _ ≠ _ by omega)
  replace r17 := r17.keep g9 (show _ ≠ _ by omega)
  replace f1 := f1.trans g9
  clear hT1 g9 lt l6 r8
  obtain ⟨c4x0, c4x1, c4x2, c4x3, c4x4⟩ := cells5 r17
  obtain ⟨c5x0, c5x1, c5x2, c5x3, c5x4⟩ := cells5 r13
  obtain ⟨z6x0, z6x1, z6x2, z6x3, z6x4⟩ := frozen5 r13
  go_wp2_with fail
  go_region
  go_wp2_with fail
  refine bodyPost_ret (ret_tf rfl rfl (r13.put5 _ _ _ _ _).drew rfl) rfl ?_
  exact ⟨rfl, (f1.put5 (Or.inl (by omega)) _ _ _ _ _).drew, hT9.keep ((Fr.refl (at' (w.heap.size + 1)) _).put5 (Or.inr rfl) _ _ _ _ _).drew (show _ ≠ _ by have := lt2.out; omega)⟩

/-- Whether the buffer answers. -/
def hitR (T : Nat → Ln) (vm sd page want : Int) : Bool := ansB (idx T vm sd page 8) && (isR want && (bits .and .i64 (ansR T (idx T vm sd page 8)) want != 0))
def reachF (bs : List UInt8) (nf : Nat) (T : Nat → Ln) (vm sd first second page want : Int) : Int := if hitR T vm sd page want = true then ansF T (idx T vm sd page 8) else (nested bs nf first second page want).fr
def reachX (bs : List UInt8) (nf : Nat) (T : Nat → Ln) (vm sd first second page want : Int) : Ft := if hitR T vm sd page want = true then f0 else (nested bs nf first second page want).ft
def reachT (bs : List UInt8) (nf : Nat) (T : Nat → Ln) (vm sd first second page want ix : Int) : Nat → Ln :=
  if hitR T vm sd page want = true then T else if (nested bs nf first second page want).ft.k = 0 then fillT T ix ⟨vm, sd, page, (nested bs nf first second page want).fr, (nested bs nf first second page want).ri⟩ else T

theorem reach_any (w : World) (p bf nf : Nat) (bs : List UInt8) (bt : Nat) (T : Nat → Ln) (fo mi vm sd first second page want ix : Int) (h : IsRam w p bf nf bs) (hT : IsTlb w bt T fo mi) (hfo : 0 ≤ fo ∧ fo < 1000000) (hmi : 0 ≤ mi ∧ mi < 1000000) (n1 : p ≠ bt) (n2 : bf ≠ bt) :
    Calls Tryz.prog 158 #[.pointer (some ⟨p, 0, none⟩), .pointer (some ⟨bt, 0, none⟩), .agg #[.int .i64 vm, .int .i64 sd, .int .i64 first, .int .i64 second], .int .i64 page, .int .i64 want, .int .i64 ix] w fun e w' => e = .returned (.tuple #[.int .i64 (reachF bs nf T vm sd first second page want), .agg #[.int .i64 (reachX bs nf T vm sd first second page want).k, .int .i64 (reachX bs nf T vm sd first second page want).s, .int .i64 (reachX bs nf T vm sd first second page want).l, .bool (reachX bs nf T vm sd first second page want).wk, .int .i64 (reachX bs nf T vm sd first second page want).p]]) ∧ Fr (at' bt) w w' ∧ IsTlb w' bt (reachT bs nf T vm sd first second page want ix) (fo + moreF (idx T vm sd page 8)) (mi + moreM (idx T vm sd page 8)) := by
  have miss : hitR T vm sd page want = false → (reachF bs nf T vm sd first second page want = (nested bs nf first second page want).fr ∧ reachX bs nf T vm sd first second page want = (nested bs nf first second page want).ft ∧
      reachT bs nf T vm sd first second page want ix = if (nested bs nf first second page want).ft.k = 0 then fillT T ix ⟨vm, sd, page, (nested bs nf first second page want).fr, (nested bs nf first second page want).ri⟩ else T) := fun hh => by
    unfold reachF reachX reachT
    rw [if_neg (by simp [hh]), if_neg (by simp [hh]), if_neg (by simp [hh])]
    exact ⟨rfl, rfl, rfl⟩
  cases h1 : ansB (idx T vm sd page 8) with
  | false =>
    obtain ⟨e1, e2, e3⟩ := miss (by simp [hitR, h1])
    rw [e1, e2, e3]
    by_cases hk : (nested bs nf first second page want).ft.k = 0
    · rw [if_pos hk]; exact reach_aok w p bf nf bs bt T fo mi vm sd first second page want ix h hT hfo hmi n1 n2 h1 _ rfl hk
    · rw [if_neg hk]; exact reach_ano w p bf nf bs bt T fo mi vm sd first second page want ix h hT hfo hmi n1 n2 h1 _ rfl hk
  | true =>
    cases h2 : isR want with
    | false =>
      obtain ⟨e1, e2, e3⟩ := miss (by simp [hitR, h2])
      rw [e1, e2, e3]
      by_cases hk : (nested bs nf first second page want).ft.k = 0
      · rw [if_pos hk]; exact reach_bok w p bf nf bs bt T fo mi vm sd first second page want ix h hT hfo hmi n1 n2 h1 h2 _ rfl hk
      · rw [if_neg hk]; exact reach_bno w p bf nf bs bt T fo mi vm sd first second page want ix h hT hfo hmi n1 n2 h1 h2 _ rfl hk
    | true =>
      by_cases h3 : bits .and .i64 (ansR T (idx T vm sd page 8)) want = 0
      · obtain ⟨e1, e2, e3⟩ := miss (by simp [hitR, h3])
        rw [e1, e2, e3]
        by_cases hk : (nested bs nf first second page want).ft.k = 0
        · rw [if_pos hk]; exact reach_cok w p bf nf bs bt T fo mi vm sd first second page want ix h hT hfo hmi n1 n2 h1 h2 h3 _ rfl hk
        · rw [if_neg hk]; exact reach_cno w p bf nf bs bt T fo mi vm sd first second page want ix h hT hfo hmi n1 n2 h1 h2 h3 _ rfl hk
      · have hh : hitR T vm sd page want = true := by simp [hitR, h1, h2, h3]
        have e1 : reachF bs nf T vm sd first second page want = ansF T (idx T vm sd page 8) := by unfold reachF; rw [if_pos hh]
        have e2 : reachX bs nf T vm sd first second page want = f0 := by unfold reachX; rw [if_pos hh]
        have e3 : reachT bs nf T vm sd first second page want ix = T := by unfold reachT; rw [if_pos hh]
        rw [e1, e2, e3]
        exact reach_hit w p bf nf bs bt T fo mi vm sd first second page want ix h hT hfo hmi n1 n2 h1 h2 h3

end Go.Proofs.YtgnoakidjnilpaaGreat

/- CpuReach -/
namespace Go.Proofs.YtgnoakidjnilpaaGreat
open Go.RowKit

/-- What is reached: the machine behind it, the fault, the place. -/
def rcM (M : Mc) (nf : Nat) (vm sd fi se ad want ix : Int) : Mc :=
  { M with T := reachT M.bs nf M.T vm sd fi se (ad / 64) want ix, fo := M.fo + moreF (idx M.T vm sd (ad / 64) 8), mi := M.mi + moreM (idx M.T vm sd (ad / 64) 8) }
def rcF (M : Mc) (nf : Nat) (vm sd fi se ad want : Int) : Ft :=
  if (reachX M.bs nf M.T vm sd fi se (ad / 64) want).k ≠ 0 then reachX M.bs nf M.T vm sd fi se (ad / 64) want
  else if (nf : Int) ≤ reachF M.bs nf M.T vm sd fi se (ad / 64) want then ⟨3, 0, 0, false, 0⟩ else f0
def rcP (M : Mc) (nf : Nat) (vm sd fi se ad want : Int) : Int :=
  if (rcF M nf vm sd fi se ad want).k ≠ 0 then 0 else reachF M.bs nf M.T vm sd fi se (ad / 64) want * 64 + ad % 64

/-- The counts are small, the lines are right. -/
structure Mc.few (M : Mc) (n : Nat) : Prop where
  fo : 0 ≤ M.fo
  mi : 0 ≤ M.mi
  sum : M.fo + M.mi ≤ n
  good : GoodT M.T
  uniq : Uniq M.T

theorem good_reach {T : Nat → Ln} (h : GoodT T) (bs : List UInt8) (nf : Nat) (vm sd first second page want ix : Int) : GoodT (reachT bs nf T vm sd first second page want ix) := by
  unfold reachT
  repeat' split
  · exact h
  · exact good_fill h _ _
  · exact h
theorem uniq_reach {T : Nat → Ln} (h : Uniq T) (bs : List UInt8) (nf : Nat) (vm sd first second page want ix : Int) : Uniq (reachT bs nf T vm sd first second page want ix) := by
  unfold reachT
  repeat' split
  · exact h
  · exact uniq_fill h _ _
  · exact h
theorem few_reach {M : Mc} {n : Nat} (h : M.few n) (nf : Nat) (vm sd fi se ad want ix : Int) : (rcM M nf vm sd fi se ad want ix).few (n + 1) := by
  have b := more_bounds (idx M.T vm sd (ad / 64) 8)
  have h1 := h.fo
  have h2 := h.mi
  have h3 := h.sum
  exact ⟨by show 0 ≤ _ + _; omega, by show 0 ≤ _ + _; omega, by show (_ + _) + (_ + _) ≤ _; omega, good_reach h.good _ _ _ _ _ _ _ _ _, uniq_reach h.uniq _ _ _ _ _ _ _ _ _⟩

theorem ew_fr (bs : List UInt8) (t page lvl : Int) : 0 ≤ df (ew bs t page lvl) ∧ df (ew bs t page lvl) ≤ 1023 := by
  unfold ew
  have := half_lt bs t.toNat (idxOf page lvl).toNat
  exact df_range (by omega) (by omega)
theorem single_fr (bs : List UInt8) (nf : Nat) (root page : Int) : 0 ≤ (single bs nf root page).fr ∧ (single bs nf root page).fr ≤ 1023 := by
  unfold single miss
  repeat' split
  · exact ⟨by decide, by decide⟩
  · exact ⟨Int.le_refl 0, by show (0 : Int) ≤ 1023; omega⟩
  · exact ⟨Int.le_refl 0, by show (0 : Int) ≤ 1023; omega⟩
  · exact ew_fr _ _ _ _
theorem granted_fr (bs : List UInt8) (nf : Nat) (root page want : Int) : 0 ≤ (granted bs nf root page want).fr ∧ (granted bs nf root page want).fr ≤ 1023 := by
  unfold granted miss
  repeat' split
  · exact single_fr _ _ _ _
  · exact ⟨Int.le_refl 0, by show (0 : Int) ≤ 1023; omega⟩
  · exact single_fr _ _ _ _
theorem guest_fr (bs : List UInt8) (nf : Nat) (second table page lvl : Int) : 0 ≤ (guest bs nf second table page lvl).fr ∧ (guest bs nf second table page lvl).fr ≤ 1023 := by
  unfold guest miss
  repeat' split
  · unfold lies
    split
    · exact ⟨Int.le_refl 0, by show (0 : Int) ≤ 1023; omega⟩
    · exact granted_fr _ _ _ _ _
  · exact ⟨Int.le_refl 0, by show (0 : Int) ≤ 1023; omega⟩
  · exact ew_fr _ _ _ _
theorem nested_fr (bs : List UInt8) (nf : Nat) (first second page want : Int) : 0 ≤ (nested bs nf first second page want).fr ∧ (nested bs nf first second page want).fr ≤ 1023 := by
  unfold nested
  repeat' split
  · unfold miss; exact ⟨Int.le_refl 0, by show (0 : Int) ≤ 1023; omega⟩
  · exact granted_fr _ _ _ _ _
  · exact guest_fr _ _ _ _ _ _
  · exact guest_fr _ _ _ _ _ _
  · unfold miss; exact ⟨Int.le_refl 0, by show (0 : Int) ≤ 1023; omega⟩
  · exact granted_fr _ _ _ _ _
theorem line_f {l : Ln} (h : l = zl ∨ rightL l = true) : 0 ≤ l.f ∧ l.f ≤ 1023 := by
  rcases h with rfl | h
  · exact ⟨by decide, by decide⟩
  · unfold rightL at h
    simp only [Bool.and_eq_true, inB, decide_eq_true_eq] at h
    omega
theorem reachF_range {T : Nat → Ln} (h : GoodT T) (bs : List UInt8) (nf : Nat) (vm sd first second page want : Int) : 0 ≤ reachF bs nf T vm sd first second page want ∧ reachF bs nf T vm sd first second page want ≤ 1023 := by
  unfold reachF
  split
  · unfold ansF
    rcases idx_cases T vm sd page 8 with ⟨h1, _⟩ | ⟨k, hk, he, _⟩
    · rw [h1]; exact ⟨Int.le_refl 0, show (0 : Int) ≤ 1023 by omega⟩
    · rw [he, show decide ((k : Int) < 0) = false from decide_eq_false (by omega)]
      exact line_f (h _ (by rw [Int.toNat_natCast]; exact hk))
  · exact nested_fr _ _ _ _ _ _

theorem Jb.buf {w w' : World} {B : Bm} {nf bx : Nat} {M : Mc} {X : Wk} (h : Jb w B nf bx M X) (f : Fr (at' B.bt) w w') {T : Nat → Ln} {fo mi : Int} (ht : IsTlb w' B.bt T fo mi) : Jb w' B nf bx { M with T := T, fo := fo, mi := mi } X :=
  { m := ⟨h.m.ram.keep f h.m.d1 h.m.d2, ht, h.m.vg.keep f (fun b hb k hk e => h.m.e3 (by have e' : k = B.bt := e; rw [← e']; simp only [Bm.g, hb]; exact hk)), h.m.d1, h.m.d2, h.m.d3, h.m.e1, h.m.e2, h.m.e3⟩
    x := h.x.keep f h.f3, p := h.p, t := h.t, v := h.v, f1 := h.f1, f2 := h.f2, f3 := h.f3, f4 := h.f4, ok := h.ok, a := h.a, b := h.b, c := h.c, i := h.i, wd := h.wd, pc := h.pc }
theorem fr_t {w w' : World} {B : Bm} {bx : Nat} (f : Fr (at' B.bt) w w') : Fr (B.x bx) w w' := f.mono (fun _ _ h => Or.inl (Or.inr (Or.inl h)))

theorem wcells7 {w : World} {B : Bm} {bx : Nat} {X : Wk} (h : IsW w bx X) (hp : X.p = B.p) (ht : X.t = B.bt) : w.cell? ⟨bx, 0, none⟩ = some (.pointer (some ⟨B.p, 0, none⟩)) ∧ w.cell? ⟨bx, 1, none⟩ = some (.pointer (some ⟨B.bt, 0, none⟩)) ∧ w.cell? ⟨bx, 3, none⟩ = some (.int .i64 X.vm) ∧ w.cell? ⟨bx, 4, none⟩ = some (.int .i64 X.sd) ∧ w.cell? ⟨bx, 5, none⟩ = some (.int .i64 X.fi) ∧ w.cell? ⟨bx, 6, none⟩ = some (.int .i64 X.se) ∧ w.cell? ⟨bx, 7, none⟩ = some (.int .i64 X.ix) :=
  ⟨hp ▸ h.k0, ht ▸ h.k1, h.k3, h.k4, h.k5, h.k6, h.k7⟩

/-- What reach leaves. -/
def Rch' (w : World) (B : Bm) (nf bx : Nat) (M : Mc) (X : Wk) (p : Int) (f : Ft) (e : Ending) (w' : World) : Prop := e = .returned (.tuple #[.int .i64 p, .agg #[.int .i64 f.k, .int .i64 f.s, .int .i64 f.l, .bool f.wk, .int .i64 f.p]]) ∧ Fr (B.x bx) w w' ∧ Jb w' B nf bx M X

set_option maxRecDepth 100000 in
set_option maxHeartbeats 4000000 in
theorem wreach_any (w : World) (B : Bm) (nf bx : Nat) (M : Mc) (X : Wk) (ad want : Int) (h : Jb w B nf bx M X) {n : Nat} (hm : M.few n) (hn : n < 999990) (ha : 0 ≤ ad ∧ ad ≤ 65535) :
    Calls Tryz.prog 126 #[.pointer (some ⟨bx, 0, none⟩), .int .i64 ad, .int .i64 want] w (Rch' w B nf bx (rcM M nf X.vm X.sd X.fi X.se ad want X.ix) X (rcP M nf X.vm X.sd X.fi X.se ad want) (rcF M nf X.vm X.sd X.fi X.se ad want)) := by
  have hR : ∀ w1, Jb w1 B nf bx M X → Calls Tryz.prog 158 #[.pointer (some ⟨B.p, 0, none⟩), .pointer (some ⟨B.bt, 0, none⟩), .agg #[.int .i64 X.vm, .int .i64 X.sd, .int .i64 X.fi, .int .i64 X.se], .int .i64 (ad / 64), .int .i64 want, .int .i64 X.ix] w1 fun e w' => e = .returned (.tuple #[.int .i64 (reachF M.bs nf M.T X.vm X.sd X.fi X.se (ad / 64) want), .agg #[.int .i64 (reachX M.bs nf M.T X.vm X.sd X.fi X.se (ad / 64) want).k, .int .i64 (reachX M.bs nf M.T X.vm X.sd X.fi X.se (ad / 64) want).s, .int .i64 (reachX M.bs nf M.T X.vm X.sd X.fi X.se (ad / 64) want).l, .bool (reachX M.bs nf M.T X.vm X.sd X.fi X.se (ad / 64) want).wk, .int .i64 (reachX M.bs nf M.T X.vm X.sd X.fi X.se (ad / 64) want).p]]) ∧ Fr (B.x bx) w1 w' ∧ Jb w' B nf bx (rcM M nf X.vm X.sd X.fi X.se ad want X.ix) X := fun w1 h1 =>
    (reach_any w1 B.p B.bf nf M.bs B.bt M.T M.fo M.mi X.vm X.sd X.fi X.se (ad / 64) want X.ix h1.m.ram h1.m.tlb ⟨hm.fo, by have := hm.sum; have := hm.mi; omega⟩ ⟨hm.mi, by have := hm.sum; have := hm.fo; omega⟩ h1.m.d1 h1.m.d2).mono fun e w' ⟨he, f, ht⟩ => ⟨he, fr_t f, h1.buf f ht⟩
  have L : Hid (∀ k, B.y bx k → k < w.heap.size) := h.lty
  have HF := fun w1 (h1 : Jb w1 B nf bx (rcM M nf X.vm X.sd X.fi X.se ad want X.ix) X) => frames_any w1 B.p B.bf nf M.bs h1.m.ram
  have Hrc : Hid (rcF M nf X.vm X.sd X.fi X.se ad want = (if (reachX M.bs nf M.T X.vm X.sd X.fi X.se (ad / 64) want).k ≠ 0 then reachX M.bs nf M.T X.vm X.sd X.fi X.se (ad / 64) want else if (nf : Int) ≤ reachF M.bs nf M.T X.vm X.sd X.fi X.se (ad / 64) want then ⟨3, 0, 0, false, 0⟩ else f0) ∧ rcP M nf X.vm X.sd X.fi X.se ad want = if (rcF M nf X.vm X.sd X.fi X.se ad want).k ≠ 0 then 0 else reachF M.bs nf M.T X.vm X.sd X.fi X.se (ad / 64) want * 64 + ad % 64) := ⟨rfl, rfl⟩
  have hnf : nf ≤ 1024 := h.m.ram.most
  have hq := reachF_range hm.good M.bs nf X.vm X.sd X.fi X.se (ad / 64) want
  obtain ⟨M', hM'⟩ : ∃ M', rcM M nf X.vm X.sd X.fi X.se ad want X.ix = M' := ⟨_, rfl⟩
  obtain ⟨F, hF⟩ : ∃ F, reachX M.bs nf M.T X.vm X.sd X.fi X.se (ad / 64) want = F := ⟨_, rfl⟩
  obtain ⟨Q, hQ⟩ : ∃ Q, reachF M.bs nf M.T X.vm X.sd X.fi X.se (ad / 64) want = Q := ⟨_, rfl⟩
  obtain ⟨F', hF'⟩ : ∃ F', rcF M nf X.vm X.sd X.fi X.se ad want = F' := ⟨_, rfl⟩
  obtain ⟨P', hP'⟩ : ∃ P', rcP M nf X.vm X.sd X.fi X.se ad want = P' := ⟨_, rfl⟩
  rw [hF, hQ, hF', hP'] at Hrc
  rw [hM', hF', hP']
  rw [hM', hF, hQ] at hR
  rw [hQ] at hq
  rw [hM'] at HF
  clear hM' hF hQ hF' hP' hm
  have q1 : ad.tdiv 64 = ad / 64 := Int.tdiv_eq_ediv_of_nonneg ha.1
  have q2 : IntKind.i64.wrap (ad / 64) = ad / 64 := by rw [IntKind.wrap_i64]; omega
  have f1 := (Fr.refl none' w).alloc (.cells #[.int .i64 0, .int .i64 0, .int .i64 0, .bool false, .int .i64 0] 50)
  have h1 := h.alloc (.cells #[.int .i64 0, .int .i64 0, .int .i64 0, .bool false, .int .i64 0] 50)
  have r1 := row_alloc w #[.int .i64 0, .int .i64 0, .int .i64 0, .bool false, .int .i64 0] 50
  go_enter Tryz.func126, Tryz.ntmps126
  go_wp2_with fail
  clear h
  obtain ⟨v0, hv0⟩ : ∃ v0, v0 = w.alloc (.cells #[.int .i64 0, .int .i64 0, .int .i64 0, .bool false, .int .i64 0] 50) := ⟨_, rfl⟩
  have hs0 : Hid (v0.heap.size = w.heap.size + 1) := by show v0.heap.size = _; rw [hv0]; simp
  rw [← hv0] at f1 h1 r1 ⊢
  clear hv0
  have HJ : Hid (Jb v0 B nf bx M X) := h1
  have hp := h1.p
  have ht := h1.t
  have nb : ¬ at' v0.heap.size bx := fun e => by have e' : bx = v0.heap.size := e; have := h1.x.lt; omega
  have nr : ¬ B.x bx w.heap.size := fun e => absurd (L.out _ (Or.inl e)) (by omega)
  have n9 : ¬ B.x bx v0.heap.size := fun e => absurd (L.out _ (Or.inl e)) (by have := hs0.out; omega)
  obtain ⟨c0, c1, c3, c4, c5, c6, c7⟩ := wcells7 h1.x hp ht
  have HD := h1.drew.x
  have HE : ∀ o, IsW (v0.alloc o).drew bx X := fun o => (h1.alloc o).drew.x
  clear h1
  go_cut [8, 9] from 10 to 34 (fun s g wx => ∃ gb, s = .int .i64 Q ∧ g = .pointer (some ⟨gb, 0, none⟩) ∧ Row wx gb #[.int .i64 F.k, .int .i64 F.s, .int .i64 F.l, .bool F.wk, .int .i64 F.p] 50 ∧ Row wx w.heap.size #[.int .i64 0, .int .i64 0, .int .i64 0, .bool false, .int .i64 0] 50 ∧ Hid (w.heap.size < gb) ∧ Fr (B.x bx) w wx ∧ Hid (Jb wx B nf bx M' X))
  case first =>
    go_region_held3 (fun w' => w'.cell? ⟨bx, 0, none⟩ = some (.pointer (some ⟨B.p, 0, none⟩)) ∧ w'.cell? ⟨bx, 1, none⟩ = some (.pointer (some ⟨B.bt, 0, none⟩)) ∧ w'.cell? ⟨bx, 3, none⟩ = some (.int .i64 X.vm) ∧ w'.cell? ⟨bx, 4, none⟩ = some (.int .i64 X.sd) ∧ w'.cell? ⟨bx, 5, none⟩ = some (.int .i64 X.fi) ∧ w'.cell? ⟨bx, 6, none⟩ = some (.int .i64 X.se) ∧ w'.cell? ⟨bx, 7, none⟩ = some (.int .i64 X.ix)) (first | with_reducible exact ⟨c0, c1, c3, c4, c5, c6, c7⟩ | with_reducible exact wcells7 HD hp ht | with_reducible exact wcells7 (HD.alloc _) hp ht | with_reducible exact wcells7 (HE _) hp ht | with_reducible exact wcells7 hv.x hp ht | with_reducible exact wcells7 (hv.x.alloc _) hp ht | with_reducible exact wcells7 (hv.x.keep (fr_own5 _ _ _ _ _ _ _) nb) hp ht | with_reducible exact wcells7 ((hv.x.alloc _).keep (fr_own5 _ _ _ _ _ _ _) nv) hp ht) (first
      | (go_at_call 158; refine (hR _ (by first | exact HJ.out.drew | exact HJ.out.drew.alloc _ | exact (HJ.out.alloc _).drew)).mono ?_; rintro e v ⟨rfl, fv, hv⟩; have nv : ¬ at' v.heap.size bx := ne_new hv.x.lt; have hf0 : Fr (B.x bx) v0 v := (by first | exact rs_drew fv | exact rs_alloc fv); have hr1 : Row v w.heap.size #[.int .i64 0, .int .i64 0, .int .i64 0, .bool false, .int .i64 0] 50 := (by first | exact r1.drew.keep fv nr | exact (r1.drew.alloc _).keep fv nr); try (have hr9 : Row v v0.heap.size #[.int .i64 0, .int .i64 0, .int .i64 0, .bool false, .int .i64 0] 50 := (row_alloc v0.drew #[.int .i64 0, .int .i64 0, .int .i64 0, .bool false, .int .i64 0] 50).keep fv n9; obtain ⟨y0, y1, y2, y3, y4⟩ := cells5 hr9; obtain ⟨z0, z1, z2, z3, z4⟩ := frozen5 hr9); have q9 := row_alloc v #[.int .i64 0, .int .i64 0, .int .i64 0, .bool false, .int .i64 0] 50; obtain ⟨yy0, yy1, yy2, yy3, yy4⟩ := cells5 q9; obtain ⟨zz0, zz1, zz2, zz3, zz4⟩ := frozen5 q9))
    all_goals go_wp2_with fail
    all_goals go_meet
    · exact ⟨v.heap.size, rfl, rfl, row_alloc _ _ _, hr1.alloc _, (show w.heap.size < v.heap.size by have := hf0.size; have := hs0.out; omega), ((fr_0 f1).trans hf0).alloc _, hv.alloc _⟩
    all_goals exact ⟨v0.heap.size, rfl, rfl, row_set5' hr9 _ _ _ _ _, hr1.keep (fr_own5 _ _ _ _ _ _ _) (ne_new (by have := hs0.out; omega)), (show w.heap.size < v0.heap.size by have := hs0.out; omega), ((fr_0 f1).trans hf0).newerS (fr_own5 _ _ _ _ _ _ _) (by have := hs0.out; omega), hv.past (fr_own5 _ _ _ _ _ _ _) (fun k hk => by have := L.out k hk; have := hs0.out; omega)⟩
  case rest =>
    obtain ⟨gb, rfl, rfl, R9, R7, Hgb, fc, HJc⟩ := hcut
    clear r1 f1 HD HE c0 c1 c3 c4 c5 c6 c7 hR HJ hs0 nb n9
    have HY : Hid (∀ k, B.y bx k → k ≠ w.heap.size) := fun k hk => by have := L.out k hk; omega
    by_cases hk : F.k = 0
    · have t1 : (F.k != 0) = false := by simp [hk]
      obtain ⟨y0, y1, y2, y3, y4⟩ := cells5 R9
      have c0 : wc.cell? ⟨bx, 0, none⟩ = some (.pointer (some ⟨B.p, 0, none⟩)) := (wcells7 HJc.out.x hp ht).1
      go_wp2_with fail
      refine (HF _ HJc.out).mono ?_
      rintro e v ⟨rfl, rfl⟩
      clear y0 y1 y2 y3 y4 c0 R9 HF
      obtain ⟨x0, x1, x2, x3, x4⟩ := cells5 R7
      obtain ⟨z0, z1, z2, z3, z4⟩ := frozen5 R7
      by_cases hn : (nf : Int) ≤ Q
      · have t2 : decide ((nf : Int) ≤ Q) = true := decide_eq_true hn
        obtain ⟨e1, e2⟩ := Hrc.out
        rw [if_neg (by simp [hk]), if_pos hn] at e1
        subst e1
        rw [if_pos (by decide)] at e2
        subst e2
        go_wp2_with fail
        refine bodyPost_ret (ret_tf rfl rfl (R7.put5 _ _ _ _ _) rfl) rfl ?_
        exact ⟨rfl, fc.newerS (fr_own5 _ _ _ _ _ _ _) (Nat.le_refl _), HJc.out.past (fr_own5 _ _ _ _ _ _ _) HY.out⟩
      · have t2 : decide ((nf : Int) ≤ Q) = false := decide_eq_false hn
        have w1 : IntKind.i64.wrap (Q * 64) = Q * 64 := by rw [IntKind.wrap_i64]; omega
        have w2 : ad.tmod 64 = ad % 64 := Int.tmod_eq_emod_of_nonneg ha.1
        have w3 : IntKind.i64.wrap (Q * 64 + ad % 64) = Q * 64 + ad % 64 := by rw [IntKind.wrap_i64]; omega
        obtain ⟨e1, e2⟩ := Hrc.out
        rw [if_neg (by simp [hk]), if_neg hn] at e1
        subst e1
        rw [if_neg (by decide)] at e2
        go_wp2_with fail
        refine bodyPost_ret (ret_tf rfl rfl (R7.put5 _ _ _ _ _) rfl) rfl ?_
        exact ⟨by rw [e2]; rfl, fc.newerS (fr_own5 _ _ _ _ _ _ _) (Nat.le_refl _), HJc.out.past (fr_own5 _ _ _ _ _ _ _) HY.out⟩
    · have t1 : (F.k != 0) = true := by simp [hk]
      obtain ⟨e1, e2⟩ := Hrc.out
      rw [if_pos hk] at e1
      subst e1
      rw [if_pos hk] at e2
      subst e2
      obtain ⟨y0, y1, y2, y3, y4⟩ := cells5 R9
      obtain ⟨x0, x1, x2, x3, x4⟩ := cells5 R7
      obtain ⟨z0, z1, z2, z3, z4⟩ := frozen5 R7
      go_wp2_with fail
      go_region
      go_wp2_with fail
      refine bodyPost_ret (ret_tf rfl rfl (R7.put5 _ _ _ _ _).drew rfl) rfl ?_
      exact ⟨rfl, (fc.newerS (fr_own5 _ _ _ _ _ _ _) (Nat.le_refl _)).drew, (HJc.out.past (fr_own5 _ _ _ _ _ _ _) HY.out).drew⟩

end Go.Proofs.YtgnoakidjnilpaaGreat

/- CpuData -/
namespace Go.Proofs.YtgnoakidjnilpaaGreat
open Go.RowKit

theorem load_trap {w : World} {g : Nat} {cs : Array Value} (h : Row w g cs 52) (hs : cs.size = 8) : (loadVar 52 ⟨g, 0, none⟩).run Tryz.prog w = .ok (.agg cs) w := by
  have h' := run_loadVar_mid (P := Tryz.prog) w g 0 52 cs.toList _ (fun j v hv => by rw [Nat.zero_add, h.cell]; simpa using hv) Tryz.underlying52 rfl (by rw [Array.length_toList, hs]; exact size_trap)
  simpa using h'

/-- A number, and a trap through a cell. -/
theorem ret_it {fn : Func} {t p : Tmp} {tmps : Array Value} {g : Nat} {cs : Array Value} {w : World} (h : fn.results = #[.tmp t, .cell p 52]) (hp : tmps.getD p undef = .pointer (some ⟨g, 0, none⟩)) (hr : Row w g cs 52) (hs : cs.size = 8) :
    (results fn tmps).run Tryz.prog w = .ok (.tuple #[tmps.getD t undef, .agg cs]) w := by
  have hl := load_trap hr hs
  have hp' : tmps[p]?.getD undef = .pointer (some ⟨g, 0, none⟩) := by simpa using hp
  simp only [results, h]
  simp [Result.andThen, hp', asAddr, hl]

def Wk.ad (X : Wk) : Int := (((X.z.r X.b + X.imm) % 65536 : Nat) : Int)
theorem Wk.ad_range (X : Wk) : 0 ≤ X.ad ∧ X.ad ≤ 65535 := by unfold Wk.ad; omega

/-- What data leaves. -/
def Dat (w : World) (B : Bm) (nf bx : Nat) (M : Mc) (X : Wk) (p : Int) (t : Tr) (e : Ending) (w' : World) : Prop := e = .returned (.tuple #[.int .i64 p, .agg (trL t)]) ∧ Fr (B.x bx) w w' ∧ Jb w' B nf bx M X

theorem dat_end {w w1 w2 : World} {B : Bm} {nf bx : Nat} {M : Mc} {X : Wk} {g : Nat} (f : Fr (B.x bx) w w1) (h : Jb w1 B nf bx M X) (hg : w.heap.size ≤ g) (hB : ∀ k, B.y bx k → k < w.heap.size) (q : Fr (at' g) w1 w2) (p : Int) (t : Tr) (cs : Array Value) (ht : cs = trL t) : Dat w B nf bx M X p t (.returned (.tuple #[.int .i64 p, .agg cs])) w2 :=
  ⟨by rw [ht], f.newerS q hg, h.past q (fun k hk => by have := hB k hk; omega)⟩

set_option maxRecDepth 100000 in
set_option maxHeartbeats 2000000 in
theorem data_any (w : World) (B : Bm) (nf bx : Nat) (M : Mc) (X : Wk) (size want cause : Int) (h : Jb w B nf bx M X) {n : Nat} (hm : M.few n) (hn : n < 999990) (hsz : size = 1 ∨ size = 4) :
    Calls Tryz.prog 135 #[.pointer (some ⟨bx, 0, none⟩), .int .i64 size, .int .i64 want, .int .i64 cause] w (Dat w B nf bx
      (if X.ad % size ≠ 0 then M else rcM M nf X.vm X.sd X.fi X.se X.ad want X.ix) X
      (if X.ad % size ≠ 0 then 0 else rcP M nf X.vm X.sd X.fi X.se X.ad want)
      (if X.ad % size ≠ 0 then ⟨4, 0, X.ad, f0⟩ else if (rcF M nf X.vm X.sd X.fi X.se X.ad want).k ≠ 0 then ⟨cause, 0, X.ad, rcF M nf X.vm X.sd X.fi X.se X.ad want⟩ else t0)) := by
  have had := X.ad_range
  have hR := fun w1 (h1 : Jb w1 B nf bx M X) => wreach_any w1 B nf bx M X X.ad want h1 hm hn had
  have hr := h.ok.r X.b
  have hi := h.i
  have e1 := conv32 X.imm (by omega)
  have e2 : IntKind.u32.wrap ((X.z.r X.b : Int) + (X.imm : Int)) = (((X.z.r X.b + X.imm) % 4294967296 : Nat) : Int) := by rw [IntKind.wrap_u32]; omega
  obtain ⟨s, hs⟩ : ∃ s : Nat, (X.z.r X.b + X.imm) % 4294967296 = s := ⟨_, rfl⟩
  have e3 : IntKind.i64.wrap (s : Int) = (s : Int) := by rw [IntKind.wrap_i64]; omega
  have e4 : bits .and .i64 (s : Int) 65535 = X.ad := by rw [and16]; unfold Wk.ad; omega
  have e5 : X.ad.tmod size = X.ad % size := Int.tmod_eq_emod_of_nonneg had.1
  have e6 : (size == 0) = false := by rcases hsz with rfl | rfl <;> rfl
  rw [hs] at e2
  have e7 : ((X.z.r X.b : Int) + (X.imm : Int)) % 4294967296 = (s : Int) := by omega
  have f1 := (Fr.refl none' w).alloc (.cells (trL t0) 52)
  have h1 := h.alloc (.cells (trL t0) 52)
  have r1 := row_alloc w (trL t0) 52
  have L : Hid (∀ k, B.y bx k → k < w.heap.size) := h.lty
  clear hs hr h hi
  obtain ⟨ad, hd⟩ : ∃ ad, X.ad = ad := ⟨_, rfl⟩
  rw [hd] at had e4 e5 hR ⊢
  clear hd
  obtain ⟨M2, hM2⟩ : ∃ M2, M2 = (if ad % size ≠ 0 then M else rcM M nf X.vm X.sd X.fi X.se ad want X.ix) := ⟨_, rfl⟩
  obtain ⟨P2, hP2⟩ : ∃ P2, P2 = (if ad % size ≠ 0 then 0 else rcP M nf X.vm X.sd X.fi X.se ad want) := ⟨_, rfl⟩
  obtain ⟨T2, hT2⟩ : ∃ T2, T2 = (if ad % size ≠ 0 then (⟨4, 0, ad, f0⟩ : Tr) else if (rcF M nf X.vm X.sd X.fi X.se ad want).k ≠ 0 then ⟨cause, 0, ad, rcF M nf X.vm X.sd X.fi X.se ad want⟩ else t0) := ⟨_, rfl⟩
  rw [← hM2, ← hP2, ← hT2]
  have HM2 : Hid (M2 = (if ad % size ≠ 0 then M else rcM M nf X.vm X.sd X.fi X.se ad want X.ix)) := hM2
  have HP2 : Hid (P2 = (if ad % size ≠ 0 then 0 else rcP M nf X.vm X.sd X.fi X.se ad want)) := hP2
  have HT2 : Hid (T2 = (if ad % size ≠ 0 then (⟨4, 0, ad, f0⟩ : Tr) else if (rcF M nf X.vm X.sd X.fi X.se ad want).k ≠ 0 then ⟨cause, 0, ad, rcF M nf X.vm X.sd X.fi X.se ad want⟩ else t0)) := hT2
  clear hM2 hP2 hT2
  obtain ⟨M', hM'⟩ : ∃ M', rcM M nf X.vm X.sd X.fi X.se ad want X.ix = M' := ⟨_, rfl⟩
  obtain ⟨F', hF'⟩ : ∃ F', rcF M nf X.vm X.sd X.fi X.se ad want = F' := ⟨_, rfl⟩
  obtain ⟨P', hP'⟩ : ∃ P', rcP M nf X.vm X.sd X.fi X.se ad want = P' := ⟨_, rfl⟩
  have HP0 : Hid ((rcF M nf X.vm X.sd X.fi X.se ad want).k ≠ 0 → rcP M nf X.vm X.sd X.fi X.se ad want = 0) := fun h => by unfold rcP; rw [if_pos h]
  rw [hF', hP'] at HP0
  rw [hM'] at HM2 hR
  rw [hF'] at HT2 hR
  rw [hP'] at HP2 hR
  clear hM' hF' hP' hm
  unfold trL t0 f0 at f1 h1 r1
  obtain ⟨v0, hv0⟩ : ∃ v0, v0 = w.alloc (.cells #[.int .i64 0, .int .i64 0, .int .i64 0, .int .i64 0, .int .i64 0, .int .i64 0, .bool false, .int .i64 0] 52) := ⟨_, rfl⟩
  go_enter Tryz.func135, Tryz.ntmps135
  go_wp2_with fail
  rw [← hv0] at f1 h1 r1 ⊢
  clear hv0
  have hB := fun n => b_any (v0.drewN n) bx X (h1.x.drewN n) h1.b
  have c14 := h1.x.k14
  go_quiet ((go_at_call 133; refine Calls.quiet_of (hB _)))
  have f2 := f1.trans (fr_drewN v0 nq)
  replace h1 := h1.keep0 (fr_drewN v0 nq)
  replace r1 := r1.keep (fr_drewN v0 nq) (fun h => h)
  obtain ⟨v1, hv1⟩ : ∃ v1, v1 = v0.drewN nq := ⟨_, rfl⟩
  rw [← hv1] at f2 h1 r1 ⊢
  clear hv1 hB c14 f1
  by_cases hz : ad % size = 0
  · have t1 : (ad % size != 0) = false := by simp [hz]
    have g1 := HM2.out
    have g2 := HP2.out
    have g3 := HT2.out
    rw [if_neg (by simp [hz])] at g1 g2 g3
    subst g1 g2
    have HT3 : Hid (T2 = if F'.k ≠ 0 then (⟨cause, 0, ad, F'⟩ : Tr) else t0) := g3
    clear HM2 HP2 HT2 hz g3
    go_wp2_with fail
    refine (hR _ h1).mono ?_
    rintro e v2 ⟨rfl, f3, h3⟩
    clear h1 hR
    replace r1 := r1.keep f3 (fun e => absurd (L.out _ (Or.inl e)) (by omega))
    have f4 := (fr_0 (B := B) (bx := bx) f2).trans f3
    clear f3 f2
    have HJ : Hid (Jb (v2.alloc (.cells #[.int .i64 F'.k, .int .i64 F'.s, .int .i64 F'.l, .bool F'.wk, .int .i64 F'.p] 50)) B nf bx M2 X) := h3.alloc _
    have r9 := row_alloc v2 #[.int .i64 F'.k, .int .i64 F'.s, .int .i64 F'.l, .bool F'.wk, .int .i64 F'.p] 50
    replace r1 := r1.alloc (.cells #[.int .i64 F'.k, .int .i64 F'.s, .int .i64 F'.l, .bool F'.wk, .int .i64 F'.p] 50)
    replace f4 := f4.alloc (.cells #[.int .i64 F'.k, .int .i64 F'.s, .int .i64 F'.l, .bool F'.wk, .int .i64 F'.p] 50)
    clear h3
    go_upto_region 5 with fail
    obtain ⟨v3, hv3⟩ : ∃ v3, v3 = v2.alloc (.cells #[.int .i64 F'.k, .int .i64 F'.s, .int .i64 F'.l, .bool F'.wk, .int .i64 F'.p] 50) := ⟨_, rfl⟩
    rw [← hv3] at HJ r9 r1 f4 ⊢
    clear hv3
    obtain ⟨y0, y1, y2, y3, y4⟩ := cells5 r9
    obtain ⟨x0, x1, x2, x3, x4, x5, x6, x7⟩ := cells8 r1
    obtain ⟨z0, z1, z2, z3, z4, z5, z6, z7⟩ := frozen8 r1
    by_cases hk : F'.k = 0
    · have t2 : (F'.k != 0) = false := by simp [hk]
      have g3 := HT3.out
      rw [if_neg (by simp [hk])] at g3
      subst g3
      go_wp2_with fail
      refine bodyPost_ret (ret_it rfl rfl (row_set8 r1 _ _ _ _ _ _ _ _) rfl) rfl ?_
      exact dat_end f4 HJ.out (Nat.le_refl _) L.out (fr_own8 _ _ _ _ _ _ _ _ _ _) _ t0 _ rfl
    · have t2 : (F'.k != 0) = true := by simp [hk]
      have g3 := HT3.out
      rw [if_pos hk] at g3
      subst g3
      have g0 := HP0.out hk
      subst g0
      go_wp2_with fail
      go_region
      all_goals go_wp2_with fail
      all_goals refine bodyPost_ret (ret_it rfl rfl (row_set8 r1 _ _ _ _ _ _ _ _).drew rfl) rfl ?_
      all_goals exact dat_end f4 HJ.out (Nat.le_refl _) L.out (fr_own8 _ _ _ _ _ _ _ _ _ _).drew _ ⟨cause, 0, ad, F'⟩ _ rfl
  · have t1 : (ad % size != 0) = true := by simp [hz]
    have g1 := HM2.out
    have g2 := HP2.out
    have g3 := HT2.out
    rw [if_pos hz] at g1 g2 g3
    subst g1 g2 g3
    clear HM2 HP2 HT2 hz hR
    have HJ : Hid (Jb v1 B nf bx M2 X) := h1
    clear h1
    obtain ⟨x0, x1, x2, x3, x4, x5, x6, x7⟩ := cells8 r1
    obtain ⟨z0, z1, z2, z3, z4, z5, z6, z7⟩ := frozen8 r1
    go_wp2_with fail
    refine bodyPost_ret (ret_it rfl rfl (row_set8 r1 _ _ _ _ _ _ _ _) rfl) rfl ?_
    exact dat_end (fr_0 f2) HJ.out (Nat.le_refl _) L.out (fr_own8 _ _ _ _ _ _ _ _ _ _) _ ⟨4, 0, ad, f0⟩ _ rfl

end Go.Proofs.YtgnoakidjnilpaaGreat

/- CpuLoad -/
namespace Go.Proofs.YtgnoakidjnilpaaGreat
open Go.RowKit

def dM (M : Mc) (nf : Nat) (X : Wk) (size want : Int) : Mc := if X.ad % size ≠ 0 then M else rcM M nf X.vm X.sd X.fi X.se X.ad want X.ix
def dP (M : Mc) (nf : Nat) (X : Wk) (size want : Int) : Int := if X.ad % size ≠ 0 then 0 else rcP M nf X.vm X.sd X.fi X.se X.ad want
def dT (M : Mc) (nf : Nat) (X : Wk) (size want cause : Int) : Tr := if X.ad % size ≠ 0 then ⟨4, 0, X.ad, f0⟩ else if (rcF M nf X.vm X.sd X.fi X.se X.ad want).k ≠ 0 then ⟨cause, 0, X.ad, rcF M nf X.vm X.sd X.fi X.se X.ad want⟩ else t0
theorem dT_zero {M : Mc} {nf : Nat} {X : Wk} {size want cause : Int} (hc : cause ≠ 0) (h : (dT M nf X size want cause).ca = 0) : dT M nf X size want cause = t0 := by
  unfold dT at h ⊢
  split at h
  · exact absurd h (show ¬ ((4 : Int) = 0) by decide)
  · rw [if_neg (by assumption)]
    split at h
    · exact absurd h hc
    · rw [if_neg (by assumption)]
theorem dM_bs (M : Mc) (nf : Nat) (X : Wk) (size want : Int) : (dM M nf X size want).bs = M.bs := by unfold dM rcM; split <;> rfl
theorem few_d {M : Mc} {n : Nat} (h : M.few n) (nf : Nat) (X : Wk) (size want : Int) : (dM M nf X size want).few (n + 1) := by
  unfold dM
  split
  · exact ⟨h.fo, h.mi, by have := h.sum; omega, h.good, h.uniq⟩
  · exact few_reach h _ _ _ _ _ _ _ _
theorem rcP_range {M : Mc} {n : Nat} (h : M.few n) (nf : Nat) (vm sd fi se ad want : Int) : 0 ≤ rcP M nf vm sd fi se ad want ∧ rcP M nf vm sd fi se ad want ≤ 65535 := by
  unfold rcP
  have := reachF_range h.good M.bs nf vm sd fi se (ad / 64) want
  split <;> omega
theorem dP_range {M : Mc} {n : Nat} (h : M.few n) (nf : Nat) (X : Wk) (size want : Int) : 0 ≤ dP M nf X size want ∧ dP M nf X size want ≤ 65535 := by
  unfold dP
  split
  · omega
  · exact rcP_range h _ _ _ _ _ _ _

theorem loadV_range (bs : List UInt8) (addr size : Int) (nf : Nat) (hs : size ≤ 4) : 0 ≤ loadV bs addr size nf ∧ loadV bs addr size nf < 4294967296 := by
  unfold loadV
  split
  · have h1 := numOf_lt ((bs.drop addr.toNat).take size.toNat)
    have h2 : ((bs.drop addr.toNat).take size.toNat).length ≤ 4 := by rw [List.length_take]; omega
    have h3 : 256 ^ ((bs.drop addr.toNat).take size.toNat).length ≤ 256 ^ 4 := Nat.pow_le_pow_right (by decide) h2
    have h4 : (256 : Nat) ^ 4 = 4294967296 := by decide
    omega
  · omega

def ldX (M : Mc) (nf : Nat) (X : Wk) (size : Int) : Wk := if (dT M nf X size 1 2).ca ≠ 0 then X else { X with z := X.z.setR X.a (loadV M.bs (dP M nf X size 1) size nf).toNat }
def stM (M : Mc) (nf : Nat) (X : Wk) (size : Int) : Mc := if (dT M nf X size 2 3).ca ≠ 0 then dM M nf X size 2 else { dM M nf X size 2 with bs := storeB M.bs (dP M nf X size 2) size nf (X.z.r X.a) }

theorem Jb.mem {w w' : World} {B : Bm} {nf bx : Nat} {M : Mc} {X : Wk} (h : Jb w B nf bx M X) (f : Fr (at' B.bf) w w') {bs : List UInt8} (hr : IsRam w' B.p B.bf nf bs) : Jb w' B nf bx { M with bs := bs } X :=
  { m := ⟨hr, h.m.tlb.keep f (fun e => h.m.d2 (Eq.symm e)), h.m.vg.keep f (fun b hb k hk e => h.m.e2 (by have e' : k = B.bf := e; rw [← e']; simp only [Bm.g, hb]; exact hk)), h.m.d1, h.m.d2, h.m.d3, h.m.e1, h.m.e2, h.m.e3⟩
    x := h.x.keep f h.f2, p := h.p, t := h.t, v := h.v, f1 := h.f1, f2 := h.f2, f3 := h.f3, f4 := h.f4, ok := h.ok, a := h.a, b := h.b, c := h.c, i := h.i, wd := h.wd, pc := h.pc }
theorem fr_f {w w' : World} {B : Bm} {bx : Nat} (f : Fr (at' B.bf) w w') : Fr (B.x bx) w w' := f.mono (fun _ _ h => Or.inl (Or.inl h))

set_option maxRecDepth 100000 in
set_option maxHeartbeats 2000000 in
theorem load1_any (w : World) (B : Bm) (nf bx : Nat) (M : Mc) (X : Wk) (bc : Nat) (size : Int) (hc : w.cell? ⟨bc, 0, none⟩ = some (.int .i64 size)) (nc : ¬ B.y bx bc) (h : Jb w B nf bx M X) {n : Nat} (hm : M.few n) (hn : n < 999990) (hsz : size = 1 ∨ size = 4) :
    Calls Tryz.prog 134 #[.pointer (some ⟨bx, 0, none⟩), .pointer (some ⟨bc, 0, none⟩)] w (Don w B nf bx (dM M nf X size 1) (ldX M nf X size) (dT M nf X size 1 2)) := by
  have hD : ∀ w1, Jb w1 B nf bx M X → Calls Tryz.prog 135 #[.pointer (some ⟨bx, 0, none⟩), .int .i64 size, .int .i64 1, .int .i64 2] w1 (Dat w1 B nf bx (dM M nf X size 1) X (dP M nf X size 1) (dT M nf X size 1 2)) := fun w1 h1 => data_any w1 B nf bx M X size 1 2 h1 hm hn hsz
  have HZ : Hid ((dT M nf X size 1 2).ca = 0 → dT M nf X size 1 2 = t0) := dT_zero (by decide)
  have hpr := dP_range hm nf X size 1
  have hbs := dM_bs M nf X size 1
  have hlv := loadV_range M.bs (dP M nf X size 1) size nf (by omega)
  obtain ⟨y, hy⟩ : ∃ y : Nat, loadV M.bs (dP M nf X size 1) size nf = y := ⟨(loadV M.bs (dP M nf X size 1) size nf).toNat, by omega⟩
  have HX : Hid (ldX M nf X size = if (dT M nf X size 1 2).ca ≠ 0 then X else { X with z := X.z.setR X.a y }) := by
    show _ = _
    unfold ldX
    rw [hy, Int.toNat_natCast]
  have hL : ∀ w1, Jb w1 B nf bx (dM M nf X size 1) X → Calls Tryz.prog 127 #[.pointer (some ⟨B.p, 0, none⟩), .int .i64 (dP M nf X size 1), .int .i64 size] w1 fun e w' => e = .returned (.tuple #[.int .u32 (y : Int), .int .i64 (errOf (dP M nf X size 1) size nf)]) ∧ w' = w1 := fun w1 h1 => by
    have := load_any w1 B.p B.bf nf M.bs (dP M nf X size 1) size (by have := h1.m.ram; rw [hbs] at this; exact this) (by omega)
    rw [hy] at this
    exact this
  have hyl : y < 4294967296 := by omega
  obtain ⟨X2, hX2⟩ : ∃ q, ldX M nf X size = q := ⟨_, rfl⟩
  obtain ⟨P2, hP2⟩ : ∃ q, dP M nf X size 1 = q := ⟨_, rfl⟩
  obtain ⟨M2, hM2⟩ : ∃ q, dM M nf X size 1 = q := ⟨_, rfl⟩
  obtain ⟨T2, hT2⟩ : ∃ q, dT M nf X size 1 2 = q := ⟨_, rfl⟩
  rw [hX2, hT2] at HX
  rw [hT2] at HZ
  rw [hM2, hP2, hT2] at hD
  rw [hM2, hP2] at hL
  rw [hX2, hM2, hT2]
  rw [hP2] at hpr
  clear hX2 hP2 hM2 hT2 hm hbs hsz hy hlv
  have f1 := (Fr.refl none' w).alloc (.cells #[.int .i64 0, .int .i64 0, .int .i64 0, .int .i64 0, .int .i64 0, .int .i64 0, .bool false, .int .i64 0] 52)
  have h1 := h.alloc (.cells #[.int .i64 0, .int .i64 0, .int .i64 0, .int .i64 0, .int .i64 0, .int .i64 0, .bool false, .int .i64 0] 52)
  have r1 := row_alloc w #[.int .i64 0, .int .i64 0, .int .i64 0, .int .i64 0, .int .i64 0, .int .i64 0, .bool false, .int .i64 0] 52
  have c1 := cell_keep f1 hc (fun h => h)
  have L : Hid (∀ k, B.y bx k → k < w.heap.size) := h.lty
  have nw : ¬ at' w.heap.size bc := ne_new (cell_lt hc)
  clear hc h
  go_enter Tryz.func134, Tryz.ntmps134
  go_wp2_with fail
  refine (hD _ h1).mono ?_
  rintro e v2 ⟨rfl, f3, h3⟩
  unfold trL
  clear h1 hD
  replace r1 := r1.keep f3 (fun e => absurd (L.out _ (Or.inl e)) (by omega))
  replace c1 := cell_keep f3 c1 (fun e => nc (Or.inl e))
  have f4 := (fr_0 (B := B) (bx := bx) f1).trans f3
  clear f3 f1
  replace h3 := h3.alloc (.cells #[.int .i64 T2.ca, .int .i64 T2.nu, .int .i64 T2.ad, .int .i64 T2.f.k, .int .i64 T2.f.s, .int .i64 T2.f.l, .bool T2.f.wk, .int .i64 T2.f.p] 52)
  have r9 := row_alloc v2 #[.int .i64 T2.ca, .int .i64 T2.nu, .int .i64 T2.ad, .int .i64 T2.f.k, .int .i64 T2.f.s, .int .i64 T2.f.l, .bool T2.f.wk, .int .i64 T2.f.p] 52
  replace r1 := r1.alloc (.cells #[.int .i64 T2.ca, .int .i64 T2.nu, .int .i64 T2.ad, .int .i64 T2.f.k, .int .i64 T2.f.s, .int .i64 T2.f.l, .bool T2.f.wk, .int .i64 T2.f.p] 52)
  replace f4 := f4.alloc (.cells #[.int .i64 T2.ca, .int .i64 T2.nu, .int .i64 T2.ad, .int .i64 T2.f.k, .int .i64 T2.f.s, .int .i64 T2.f.l, .bool T2.f.wk, .int .i64 T2.f.p] 52)
  replace c1 := cell_keep ((Fr.refl none' v2).alloc (.cells #[.int .i64 T2.ca, .int .i64 T2.nu, .int .i64 T2.ad, .int .i64 T2.f.k, .int .i64 T2.f.s, .int .i64 T2.f.l, .bool T2.f.wk, .int .i64 T2.f.p] 52)) c1 (fun h => h)
  go_upto_region 2 with fail
  obtain ⟨v3, hv3⟩ : ∃ v3, v3 = v2.alloc (.cells #[.int .i64 T2.ca, .int .i64 T2.nu, .int .i64 T2.ad, .int .i64 T2.f.k, .int .i64 T2.f.s, .int .i64 T2.f.l, .bool T2.f.wk, .int .i64 T2.f.p] 52) := ⟨_, rfl⟩
  rw [← hv3] at h3 r9 r1 f4 c1 ⊢
  clear hv3
  have HJ : Hid (Jb v3 B nf bx M2 X) := h3
  obtain ⟨y0, y1, y2, y3, y4, y5, y6, y7⟩ := cells8 r9
  by_cases hk : T2.ca = 0
  · have t2 : (T2.ca != 0) = false := by simp [hk]
    have g3 := HZ.out hk
    have g4 := HX.out
    rw [if_neg (by simp [hk])] at g4
    clear HX HZ hk
    have c0 : v3.cell? ⟨bx, 0, none⟩ = some (.pointer (some ⟨B.p, 0, none⟩)) := (wcells7 h3.x h3.p h3.t).1
    have hQ := fun n => hL (v3.drewN n) (h3.keep0 (fr_drewN v3 n))
    clear h3
    go_wp2_with fail
    go_quiet ((go_at_call 127; refine Calls.quiet_of_same (hQ _)))
    have f5 := f4.trans (fr_0 (fr_drewN v3 nq))
    have h5 := HJ.out.keep0 (fr_drewN v3 nq)
    replace r1 := r1.keep (fr_drewN v3 nq) (fun h => h)
    obtain ⟨v4, hv4⟩ : ∃ v4, v4 = v3.drewN nq := ⟨_, rfl⟩
    rw [← hv4] at f5 h5 r1 ⊢
    clear hv4 f4 HJ hQ c0 c1 y0 y1 y2 y3 y4 y5 y6 y7 r9
    go_wp2_with fail
    refine (setA_any _ _ _ _ h5.x h5.a).mono ?_
    rintro e v5 ⟨⟨u, rfl⟩, f6, hx⟩
    have h6 := h5.turn f6 hx (h5.ok.setR _ hyl)
    replace r1 := r1.keep f6 (fun e => absurd (L.out _ (Or.inl (Or.inr e))) (by omega))
    have f7 := f5.trans (fr_x f6)
    have HJ : Hid (Jb v5 B nf bx M2 { X with z := X.z.setR X.a y }) := h6
    clear h5 h6 hx f5 f6
    obtain ⟨x0, x1, x2, x3, x4, x5, x6, x7⟩ := cells8 r1
    obtain ⟨z0, z1, z2, z3, z4, z5, z6, z7⟩ := frozen8 r1
    go_wp2_with fail
    refine bodyPost_ret (ret_trap rfl rfl (row_set8 r1 _ _ _ _ _ _ _ _) rfl) rfl ?_
    rw [g3, g4]
    exact don_end f7 HJ.out (Nat.le_refl _) L.out t0 _ _ _ _ _ _ _ _ rfl
  · have t2 : (T2.ca != 0) = true := by simp [hk]
    have g4 := HX.out
    rw [if_pos hk] at g4
    clear HX HZ hk h3
    obtain ⟨x0, x1, x2, x3, x4, x5, x6, x7⟩ := cells8 r1
    obtain ⟨z0, z1, z2, z3, z4, z5, z6, z7⟩ := frozen8 r1
    go_wp2_with fail
    refine bodyPost_ret (ret_trap rfl rfl (row_set8 r1 _ _ _ _ _ _ _ _) rfl) rfl ?_
    rw [g4]
    exact don_end f4 HJ.out (Nat.le_refl _) L.out T2 _ _ _ _ _ _ _ _ rfl

set_option maxRecDepth 100000 in
set_option maxHeartbeats 2000000 in
theorem store1_any (w : World) (B : Bm) (nf bx : Nat) (M : Mc) (X : Wk) (bc : Nat) (size : Int) (hc : w.cell? ⟨bc, 0, none⟩ = some (.int .i64 size)) (nc : ¬ B.y bx bc) (h : Jb w B nf bx M X) {n : Nat} (hm : M.few n) (hn : n < 999990) (hsz : size = 1 ∨ size = 4) :
    Calls Tryz.prog 136 #[.pointer (some ⟨bx, 0, none⟩), .pointer (some ⟨bc, 0, none⟩)] w (Don w B nf bx (stM M nf X size) X (dT M nf X size 2 3)) := by
  have hD : ∀ w1, Jb w1 B nf bx M X → Calls Tryz.prog 135 #[.pointer (some ⟨bx, 0, none⟩), .int .i64 size, .int .i64 2, .int .i64 3] w1 (Dat w1 B nf bx (dM M nf X size 2) X (dP M nf X size 2) (dT M nf X size 2 3)) := fun w1 h1 => data_any w1 B nf bx M X size 2 3 h1 hm hn hsz
  have HZ : Hid ((dT M nf X size 2 3).ca = 0 → dT M nf X size 2 3 = t0) := dT_zero (by decide)
  have hpr := dP_range hm nf X size 2
  have hbs := dM_bs M nf X size 2
  have HX : Hid (stM M nf X size = if (dT M nf X size 2 3).ca ≠ 0 then dM M nf X size 2 else { dM M nf X size 2 with bs := storeB M.bs (dP M nf X size 2) size nf (X.z.r X.a) }) := rfl
  have hL : ∀ w1, Jb w1 B nf bx (dM M nf X size 2) X → Calls Tryz.prog 28 #[.pointer (some ⟨B.p, 0, none⟩), .int .i64 (dP M nf X size 2), .int .i64 size, .int .u32 ((X.z.r X.a : Nat) : Int)] w1 fun e w' => (∃ u, e = .returned u) ∧ Fr (at' B.bf) w1 w' ∧ IsRam w' B.p B.bf nf (storeB M.bs (dP M nf X size 2) size nf (X.z.r X.a)) := fun w1 h1 => by
    have := store_any w1 B.p B.bf nf M.bs (dP M nf X size 2) size (X.z.r X.a) (by have := h1.m.ram; rw [hbs] at this; exact this) (by omega) (h1.ok.r X.a)
    exact this.mono (fun e w' ⟨a, b, c⟩ => ⟨⟨_, a⟩, b, c⟩)
  obtain ⟨bs2, hb2⟩ : ∃ bs2, storeB M.bs (dP M nf X size 2) size nf (X.z.r X.a) = bs2 := ⟨_, rfl⟩
  rw [hb2] at hL HX
  obtain ⟨M3, hX2⟩ : ∃ q, stM M nf X size = q := ⟨_, rfl⟩
  obtain ⟨P2, hP2⟩ : ∃ q, dP M nf X size 2 = q := ⟨_, rfl⟩
  obtain ⟨M2, hM2⟩ : ∃ q, dM M nf X size 2 = q := ⟨_, rfl⟩
  obtain ⟨T2, hT2⟩ : ∃ q, dT M nf X size 2 3 = q := ⟨_, rfl⟩
  rw [hX2, hT2, hM2] at HX
  rw [hT2] at HZ
  rw [hM2, hP2, hT2] at hD
  rw [hM2, hP2] at hL
  rw [hX2, hT2]
  rw [hP2] at hpr
  clear hX2 hP2 hM2 hT2 hm hbs hsz hb2
  have f1 := (Fr.refl none' w).alloc (.cells #[.int .i64 0, .int .i64 0, .int .i64 0, .int .i64 0, .int .i64 0, .int .i64 0, .bool false, .int .i64 0] 52)
  have h1 := h.alloc (.cells #[.int .i64 0, .int .i64 0, .int .i64 0, .int .i64 0, .int .i64 0, .int .i64 0, .bool false, .int .i64 0] 52)
  have r1 := row_alloc w #[.int .i64 0, .int .i64 0, .int .i64 0, .int .i64 0, .int .i64 0, .int .i64 0, .bool false, .int .i64 0] 52
  have c1 := cell_keep f1 hc (fun h => h)
  have L : Hid (∀ k, B.y bx k → k < w.heap.size) := h.lty
  have nw : ¬ at' w.heap.size bc := ne_new (cell_lt hc)
  clear hc h
  go_enter Tryz.func136, Tryz.ntmps136
  go_wp2_with fail
  refine (hD _ h1).mono ?_
  rintro e v2 ⟨rfl, f3, h3⟩
  unfold trL
  clear h1 hD
  replace r1 := r1.keep f3 (fun e => absurd (L.out _ (Or.inl e)) (by omega))
  replace c1 := cell_keep f3 c1 (fun e => nc (Or.inl e))
  have f4 := (fr_0 (B := B) (bx := bx) f1).trans f3
  clear f3 f1
  replace h3 := h3.alloc (.cells #[.int .i64 T2.ca, .int .i64 T2.nu, .int .i64 T2.ad, .int .i64 T2.f.k, .int .i64 T2.f.s, .int .i64 T2.f.l, .bool T2.f.wk, .int .i64 T2.f.p] 52)
  have r9 := row_alloc v2 #[.int .i64 T2.ca, .int .i64 T2.nu, .int .i64 T2.ad, .int .i64 T2.f.k, .int .i64 T2.f.s, .int .i64 T2.f.l, .bool T2.f.wk, .int .i64 T2.f.p] 52
  replace r1 := r1.alloc (.cells #[.int .i64 T2.ca, .int .i64 T2.nu, .int .i64 T2.ad, .int .i64 T2.f.k, .int .i64 T2.f.s, .int .i64 T2.f.l, .bool T2.f.wk, .int .i64 T2.f.p] 52)
  replace f4 := f4.alloc (.cells #[.int .i64 T2.ca, .int .i64 T2.nu, .int .i64 T2.ad, .int .i64 T2.f.k, .int .i64 T2.f.s, .int .i64 T2.f.l, .bool T2.f.wk, .int .i64 T2.f.p] 52)
  replace c1 := cell_keep ((Fr.refl none' v2).alloc (.cells #[.int .i64 T2.ca, .int .i64 T2.nu, .int .i64 T2.ad, .int .i64 T2.f.k, .int .i64 T2.f.s, .int .i64 T2.f.l, .bool T2.f.wk, .int .i64 T2.f.p] 52)) c1 (fun h => h)
  go_upto_region 2 with fail
  obtain ⟨v3, hv3⟩ : ∃ v3, v3 = v2.alloc (.cells #[.int .i64 T2.ca, .int .i64 T2.nu, .int .i64 T2.ad, .int .i64 T2.f.k, .int .i64 T2.f.s, .int .i64 T2.f.l, .bool T2.f.wk, .int .i64 T2.f.p] 52) := ⟨_, rfl⟩
  rw [← hv3] at h3 r9 r1 f4 c1 ⊢
  clear hv3
  have HJ : Hid (Jb v3 B nf bx M2 X) := h3
  obtain ⟨y0, y1, y2, y3, y4, y5, y6, y7⟩ := cells8 r9
  by_cases hk : T2.ca = 0
  · have t2 : (T2.ca != 0) = false := by simp [hk]
    have g3 := HZ.out hk
    have g4 := HX.out
    rw [if_neg (by simp [hk])] at g4
    clear HX HZ hk
    have c0 : v3.cell? ⟨bx, 0, none⟩ = some (.pointer (some ⟨B.p, 0, none⟩)) := (wcells7 h3.x h3.p h3.t).1
    have ca := h3.a
    clear h3
    go_wp2_with fail
    go_region_held3 (fun w' => w'.cell? ⟨bx, 0, none⟩ = some (.pointer (some ⟨B.p, 0, none⟩)) ∧ w'.cell? ⟨bc, 0, none⟩ = some (.int .i64 size)) (first | with_reducible exact ⟨c0, c1⟩ | with_reducible exact ⟨e0, e1⟩ | with_reducible exact ⟨k0, k1⟩ | exact ⟨c0, c1⟩) (first
      | (go_at_call 137; refine (a_any _ _ _ HJ.out.drew.x HJ.out.a).mono ?_; rintro e v ⟨rfl, m, rfl⟩; obtain ⟨v, hv, fv⟩ := drewN_new (w := v3.drew) m; rw [← hv]; have hJ := HJ.out.drew.keep0 fv; have e0 := cell_keep fv (show v3.drew.cell? _ = _ from c0) (fun h => h); have e1 := cell_keep fv (show v3.drew.cell? _ = _ from c1) (fun h => h); have r5 := r1.drew.keep fv (fun h => h); have f5 := f4.drew.trans (fr_0 fv); clear hv fv)
      | (go_at_call 28; refine (hL _ hJ).mono ?_; rintro e v4 ⟨⟨u, rfl⟩, f6, hr⟩; have k0 := cell_keep f6 e0 hJ.f2; have k1 := cell_keep f6 e1 (fun e => nc (Or.inl (Or.inl (Or.inl e)))); have h6 := hJ.mem f6 hr))
    all_goals have r6 := r5.keep f6 (fun e => absurd (L.out _ (Or.inl (Or.inl (Or.inl e)))) (by omega))
    all_goals have f7 := f5.trans (fr_f f6)
    all_goals have HK : Hid (Jb v4 B nf bx { M2 with bs := bs2 } X) := h6
    all_goals clear hJ h6 hr f5 f6
    all_goals obtain ⟨x0, x1, x2, x3, x4, x5, x6, x7⟩ := cells8 r6
    all_goals obtain ⟨z0, z1, z2, z3, z4, z5, z6, z7⟩ := frozen8 r6
    all_goals go_wp2_with fail
    all_goals refine bodyPost_ret (ret_trap rfl rfl (row_set8 r6 _ _ _ _ _ _ _ _) rfl) rfl ?_
    all_goals rw [g3, g4]
    all_goals exact don_end f7 HK.out (Nat.le_refl _) L.out t0 _ _ _ _ _ _ _ _ rfl
  · have t2 : (T2.ca != 0) = true := by simp [hk]
    have g4 := HX.out
    rw [if_pos hk] at g4
    clear HX HZ hk h3
    obtain ⟨x0, x1, x2, x3, x4, x5, x6, x7⟩ := cells8 r1
    obtain ⟨z0, z1, z2, z3, z4, z5, z6, z7⟩ := frozen8 r1
    go_wp2_with fail
    refine bodyPost_ret (ret_trap rfl rfl (row_set8 r1 _ _ _ _ _ _ _ _) rfl) rfl ?_
    rw [g4]
    exact don_end f4 HJ.out (Nat.le_refl _) L.out T2 _ _ _ _ _ _ _ _ rfl

end Go.Proofs.YtgnoakidjnilpaaGreat

