/-
  Contracts of package ram's two inner functions, 'has' and 'place', over the translation: whatever number and size, what they answer; nothing turns. No statement is proved here.
-/
import Derived.Test.YtgnoakidjnilpaaGreatRows
import Derived.Test.YtgnoakidjnilpaaGreatBase
import Derived.WalkKit
import Derived.WalkSpells
import Derived.WalkLawsBesides
import Derived.BigQuiet
import Derived.Deep.QuietTactic
namespace Go.Proofs.YtgnoakidjnilpaaGreat
open Go.RowKit

/-- What is wrong with an access: 0 nothing, 1 ErrArg, 11 ErrAlign, 10 ErrAddress. -/
def errOf (addr size : Int) (nf : Nat) : Int :=
  if size ≠ 1 ∧ size ≠ 2 ∧ size ≠ 4 then 1
  else if addr.tmod size ≠ 0 then 11
  else if addr < 0 ∨ 64 * (nf : Int) ≤ addr then 10
  else 0

theorem err_arg {addr size : Int} {nf : Nat} (h : size ≠ 1 ∧ size ≠ 2 ∧ size ≠ 4) : errOf addr size nf = 1 := by
  unfold errOf; rw [if_pos h]

theorem err_align {addr size : Int} {nf : Nat} (h : ¬ (size ≠ 1 ∧ size ≠ 2 ∧ size ≠ 4)) (h' : addr.tmod size ≠ 0) : errOf addr size nf = 11 := by
  unfold errOf; rw [if_neg h, if_pos h']

theorem err_address {addr size : Int} {nf : Nat} (h : ¬ (size ≠ 1 ∧ size ≠ 2 ∧ size ≠ 4)) (h' : ¬ addr.tmod size ≠ 0) (k : addr < 0 ∨ 64 * (nf : Int) ≤ addr) : errOf addr size nf = 10 := by
  unfold errOf; rw [if_neg h, if_neg h', if_pos k]

theorem err_none {addr size : Int} {nf : Nat} (h : ¬ (size ≠ 1 ∧ size ≠ 2 ∧ size ≠ 4)) (h' : ¬ addr.tmod size ≠ 0) (k : ¬ (addr < 0 ∨ 64 * (nf : Int) ≤ addr)) : errOf addr size nf = 0 := by
  unfold errOf; rw [if_neg h, if_neg h', if_neg k]

theorem err_zero {addr size : Int} {nf : Nat} (h : errOf addr size nf = 0) : (size = 1 ∨ size = 2 ∨ size = 4) ∧ addr.tmod size = 0 ∧ 0 ≤ addr ∧ addr < 64 * (nf : Int) := by
  by_cases a : size ≠ 1 ∧ size ≠ 2 ∧ size ≠ 4
  · rw [err_arg a] at h; omega
  by_cases b : addr.tmod size ≠ 0
  · rw [err_align a b] at h; omega
  by_cases c : addr < 0 ∨ 64 * (nf : Int) ≤ addr
  · rw [err_address a b c] at h; omega
  exact ⟨by omega, by omega, by omega, by omega⟩

set_option maxHeartbeats 400000 in
theorem has_yes (b bf : Nat) (nf : Nat) (n : Int) (w : World) (h : w.cell? ⟨b, 0, none⟩ = some (.slice (some ⟨bf, 0, none⟩) nf nf)) (hn : 0 ≤ n) :
    Calls Tryz.prog 62 #[.pointer (some ⟨b, 0, none⟩), .int .i64 n] w fun e w' => e = .returned (.bool (decide (n < (nf : Int)))) ∧ w' = w := by
  go_enter Tryz.func62, Tryz.ntmps62
  go_wp2
  go_ret
  exact ⟨rfl, rfl⟩

set_option maxHeartbeats 400000 in
theorem has_neg (b : Nat) (n : Int) (w : World) (hn : n < 0) :
    Calls Tryz.prog 62 #[.pointer (some ⟨b, 0, none⟩), .int .i64 n] w fun e w' => e = .returned (.bool false) ∧ w' = w := by
  have hg : decide (0 ≤ n) = false := by simpa using hn
  go_enter Tryz.func62, Tryz.ntmps62
  go_wp2
  go_ret
  exact ⟨rfl, rfl⟩

theorem ret_slice2 {bf o o' l l' c c' : Nat} {e : Int} (ho : o = o') (hl : l = l') (hc : c = c') :
    Ending.returned (.tuple #[.slice (some ⟨bf, o, none⟩) l c, .int .i64 e]) = Ending.returned (.tuple #[.slice (some ⟨bf, o', none⟩) l' c', .int .i64 e]) := by
  rw [ho, hl, hc]

set_option maxHeartbeats 400000 in
theorem place_ok (b bf : Nat) (nf : Nat) (addr size : Int) (w : World) (h : w.cell? ⟨b, 0, none⟩ = some (.slice (some ⟨bf, 0, none⟩) nf nf)) (hn : nf ≤ 1024) (he : errOf addr size nf = 0) :
    Calls Tryz.prog 69 #[.pointer (some ⟨b, 0, none⟩), .int .i64 addr, .int .i64 size] w fun e w' => e = .returned (.tuple #[.slice (some ⟨bf, addr.toNat, none⟩) size.toNat (64 - addr.toNat % 64), .int .i64 0]) ∧ w' = w := by
  obtain ⟨hs, ha, h0, h1⟩ := err_zero he
  clear he
  rw [Int.tmod_eq_emod_of_nonneg h0] at ha
  have e1 : 0 ≤ addr % 64 := by omega
  have e4 : 0 ≤ addr / 64 := by omega
  have e5 : addr / 64 < (nf : Int) := by omega
  rcases hs with rfl | rfl | rfl
  · have e2 : addr % 64 ≤ addr % 64 + 1 := by omega
    have e3 : addr % 64 + 1 ≤ 64 := by omega
    clear ha
    go_enter Tryz.func69, Tryz.ntmps69
    go_wp2_with (go_at_call 62; refine (has_yes _ _ _ _ _ h (by omega)).mono ?_; rintro e w' ⟨rfl, rfl⟩)
    go_ret2
    exact ⟨ret_slice2 (by omega) (by omega) (by omega), rfl⟩
  · have e2 : addr % 64 ≤ addr % 64 + 2 := by omega
    have e3 : addr % 64 + 2 ≤ 64 := by omega
    go_enter Tryz.func69, Tryz.ntmps69
    go_wp2_with (go_at_call 62; refine (has_yes _ _ _ _ _ h (by omega)).mono ?_; rintro e w' ⟨rfl, rfl⟩)
    go_ret2
    exact ⟨ret_slice2 (by omega) (by omega) (by omega), rfl⟩
  · have e2 : addr % 64 ≤ addr % 64 + 4 := by omega
    have e3 : addr % 64 + 4 ≤ 64 := by omega
    go_enter Tryz.func69, Tryz.ntmps69
    go_wp2_with (go_at_call 62; refine (has_yes _ _ _ _ _ h (by omega)).mono ?_; rintro e w' ⟨rfl, rfl⟩)
    go_ret2
    exact ⟨ret_slice2 (by omega) (by omega) (by omega), rfl⟩

set_option maxHeartbeats 400000 in
theorem place_arg (b : Nat) (addr size : Int) (w : World) (hs : size ≠ 1 ∧ size ≠ 2 ∧ size ≠ 4) :
    Calls Tryz.prog 69 #[.pointer (some ⟨b, 0, none⟩), .int .i64 addr, .int .i64 size] w fun e w' => e = .returned (.tuple #[.slice none 0 0, .int .i64 1]) ∧ w' = w := by
  have e1 : (size != 1) = true := by simp; omega
  have e2 : (size != 2) = true := by simp; omega
  have e4 : (size != 4) = true := by simp; omega
  clear hs
  go_enter Tryz.func69, Tryz.ntmps69
  go_wp2
  go_ret2
  exact ⟨rfl, rfl⟩

set_option maxHeartbeats 400000 in
theorem place_align (b : Nat) (addr size : Int) (w : World) (hs : size = 1 ∨ size = 2 ∨ size = 4) (ha : addr.tmod size ≠ 0) :
    Calls Tryz.prog 69 #[.pointer (some ⟨b, 0, none⟩), .int .i64 addr, .int .i64 size] w fun e w' => e = .returned (.tuple #[.slice none 0 0, .int .i64 11]) ∧ w' = w := by
  rcases hs with rfl | rfl | rfl
  · simp at ha
  · have e1 : (addr.tmod 2 != 0) = true := by simpa using ha
    go_enter Tryz.func69, Tryz.ntmps69
    go_wp2
    go_ret2
    exact ⟨rfl, rfl⟩
  · have e1 : (addr.tmod 4 != 0) = true := by simpa using ha
    go_enter Tryz.func69, Tryz.ntmps69
    go_wp2
    go_ret2
    exact ⟨rfl, rfl⟩

set_option maxHeartbeats 400000 in
theorem place_neg (b : Nat) (addr size : Int) (w : World) (hs : size = 1 ∨ size = 2 ∨ size = 4) (ha : addr.tmod size = 0) (h0 : addr < 0) :
    Calls Tryz.prog 69 #[.pointer (some ⟨b, 0, none⟩), .int .i64 addr, .int .i64 size] w fun e w' => e = .returned (.tuple #[.slice none 0 0, .int .i64 10]) ∧ w' = w := by
  have hd : decide (addr < 0) = true := by simpa using h0
  rcases hs with rfl | rfl | rfl
  · clear ha
    go_enter Tryz.func69, Tryz.ntmps69
    go_wp2
    go_ret2
    exact ⟨rfl, rfl⟩
  · have e1 : (addr.tmod 2 != 0) = false := by simpa using ha
    go_enter Tryz.func69, Tryz.ntmps69
    go_wp2
    go_ret2
    exact ⟨rfl, rfl⟩
  · have e1 : (addr.tmod 4 != 0) = false := by simpa using ha
    go_enter Tryz.func69, Tryz.ntmps69
    go_wp2
    go_ret2
    exact ⟨rfl, rfl⟩

set_option maxHeartbeats 400000 in
theorem place_far (b bf : Nat) (nf : Nat) (addr size : Int) (w : World) (h : w.cell? ⟨b, 0, none⟩ = some (.slice (some ⟨bf, 0, none⟩) nf nf)) (hs : size = 1 ∨ size = 2 ∨ size = 4) (ha : addr.tmod size = 0) (h0 : 0 ≤ addr) (h1 : 64 * (nf : Int) ≤ addr) (hm : addr ≤ 9223372036854775807) :
    Calls Tryz.prog 69 #[.pointer (some ⟨b, 0, none⟩), .int .i64 addr, .int .i64 size] w fun e w' => e = .returned (.tuple #[.slice none 0 0, .int .i64 10]) ∧ w' = w := by
  rw [Int.tmod_eq_emod_of_nonneg h0] at ha
  have e5 : decide (addr / 64 < (nf : Int)) = false := by simp; omega
  have e4 : 0 ≤ addr / 64 := by omega
  rcases hs with rfl | rfl | rfl
  · clear ha
    go_enter Tryz.func69, Tryz.ntmps69
    go_wp2_with (go_at_call 62; refine (has_yes _ _ _ _ _ h (by omega)).mono ?_; rintro e w' ⟨rfl, rfl⟩)
    go_ret2
    exact ⟨rfl, rfl⟩
  · go_enter Tryz.func69, Tryz.ntmps69
    go_wp2_with (go_at_call 62; refine (has_yes _ _ _ _ _ h (by omega)).mono ?_; rintro e w' ⟨rfl, rfl⟩)
    go_ret2
    exact ⟨rfl, rfl⟩
  · go_enter Tryz.func69, Tryz.ntmps69
    go_wp2_with (go_at_call 62; refine (has_yes _ _ _ _ _ h (by omega)).mono ?_; rintro e w' ⟨rfl, rfl⟩)
    go_ret2
    exact ⟨rfl, rfl⟩

theorem place_bad (b bf : Nat) (nf : Nat) (addr size : Int) (w : World) (h : w.cell? ⟨b, 0, none⟩ = some (.slice (some ⟨bf, 0, none⟩) nf nf)) (he : errOf addr size nf ≠ 0) (hm : addr ≤ 9223372036854775807) :
    Calls Tryz.prog 69 #[.pointer (some ⟨b, 0, none⟩), .int .i64 addr, .int .i64 size] w fun e w' => e = .returned (.tuple #[.slice none 0 0, .int .i64 (errOf addr size nf)]) ∧ w' = w := by
  by_cases a : size ≠ 1 ∧ size ≠ 2 ∧ size ≠ 4
  · rw [err_arg a]; exact place_arg b addr size w a
  have a' : size = 1 ∨ size = 2 ∨ size = 4 := by omega
  by_cases c : addr.tmod size ≠ 0
  · rw [err_align a c]; exact place_align b addr size w a' c
  by_cases d : addr < 0 ∨ 64 * (nf : Int) ≤ addr
  · rw [err_address a c d]
    by_cases d0 : addr < 0
    · exact place_neg b addr size w a' (by omega) d0
    · exact place_far b bf nf addr size w h a' (by omega) (by omega) (by omega) hm
  · exact absurd (err_none a c d) he

end Go.Proofs.YtgnoakidjnilpaaGreat
