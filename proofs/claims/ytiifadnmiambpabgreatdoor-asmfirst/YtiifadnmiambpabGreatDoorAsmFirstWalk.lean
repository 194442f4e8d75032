/-
  AsmFirst over the translation: whatever numbers came in, the law returns true, and nothing old turns. No statement is proved here.
-/
import Derived.Test.YtiifadnmiambpabGreatDoorAsmAwake
import Derived.Test.YtiifadnmiambpabGreatDoorAsmTwiceP
namespace Go.Proofs.YtiifadnmiambpabGreatDoor
open Go.RowKit

def wrow : Array Value := #[.string ⟨#[109, 111, 118, 105, 32, 114, 49, 44, 32, 82]⟩, .string ⟨#[110, 111, 112, 32, 110, 111, 112]⟩, .string ⟨#[109, 111, 118, 105, 32, 114, 49, 54, 44, 32, 48]⟩, .string ⟨#[106, 109, 112, 32, 97, 119, 97, 121]⟩, .string ⟨#[109, 111, 118, 105, 32, 114, 49, 54, 32, 48]⟩, .string ⟨#[110, 111, 112, 58, 32, 110, 111, 112]⟩, .string ⟨#[97, 98, 99, 100, 101, 102, 103, 104, 105, 106, 107, 108, 109, 58, 32, 110, 111, 112]⟩, .string ⟨#[109, 111, 118, 105, 32, 114, 49, 44, 32, 48, 48, 49, 50]⟩, .string ⟨#[109, 111, 118, 105, 32, 114, 48, 48, 49, 50, 44, 32, 49]⟩, .string ⟨#[109, 111, 118, 105, 32, 114, 49, 44, 32, 55, 48, 48, 48, 48]⟩, .string ⟨#[119, 111, 114, 100, 32, 52, 50, 57, 52, 57, 54, 55, 50, 57, 54]⟩, .string ⟨#[108, 100, 114, 32, 114, 49, 44, 32, 91, 114, 50, 93]⟩, .string ⟨#[98, 101, 113, 32, 114, 49, 44, 32, 114, 50]⟩, .string ⟨#[109, 111, 118, 105, 32, 114, 49, 44, 32, 48, 120, 49, 50, 51, 52, 53, 54, 55, 56, 57]⟩, .string ⟨#[119, 111, 114, 100, 32, 120]⟩, .string ⟨#[106, 109, 112, 32, 114, 49]⟩]
def erow : Array Value := #[.int .i64 60, .int .i64 61, .int .i64 63, .int .i64 62, .int .i64 61, .int .i64 61, .int .i64 60, .int .i64 60, .int .i64 60, .int .i64 63, .int .i64 63, .int .i64 61, .int .i64 61, .int .i64 60, .int .i64 61, .int .i64 61]
theorem wrow_get (k : Nat) (h : k < 16) : wrow[k]? = some (.string ⟨(wrongB k).toArray⟩) := by
  have : k = 0 ∨ k = 1 ∨ k = 2 ∨ k = 3 ∨ k = 4 ∨ k = 5 ∨ k = 6 ∨ k = 7 ∨ k = 8 ∨ k = 9 ∨ k = 10 ∨ k = 11 ∨ k = 12 ∨ k = 13 ∨ k = 14 ∨ k = 15 := by omega
  rcases this with rfl | rfl | rfl | rfl | rfl | rfl | rfl | rfl | rfl | rfl | rfl | rfl | rfl | rfl | rfl | rfl <;> rfl
theorem erow_get (k : Nat) (h : k < 16) : erow[k]? = some (.int .i64 (wrongN k : Int)) := by
  have : k = 0 ∨ k = 1 ∨ k = 2 ∨ k = 3 ∨ k = 4 ∨ k = 5 ∨ k = 6 ∨ k = 7 ∨ k = 8 ∨ k = 9 ∨ k = 10 ∨ k = 11 ∨ k = 12 ∨ k = 13 ∨ k = 14 ∨ k = 15 := by omega
  rcases this with rfl | rfl | rfl | rfl | rfl | rfl | rfl | rfl | rfl | rfl | rfl | rfl | rfl | rfl | rfl | rfl <;> rfl

theorem rowTwo (w : World) (o : Obj) (cs : Array Value) (t : TypeId) : Row ((w.alloc o).alloc (.cells cs t)) (w.heap.size + 1) cs t := by
  have := row_alloc (w.alloc o) cs t
  rwa [show (w.alloc o).heap.size = w.heap.size + 1 by simp] at this

theorem fir_len (many at_ k i : Nat) (hk : k < 16) : (firF many at_ k i).length ≤ 60 := by
  have h1 : (wrongB k).length ≤ 40 := wrong_len ⟨k, hk⟩
  have h2 : fineB.length = 10 := rfl
  unfold firF
  split <;> split <;> simp <;> omega
theorem acc_len60 (F : Nat → List UInt8) (h : ∀ i, (F i).length ≤ 60) (k : Nat) : (accB F k).length ≤ 60 * k := by
  induction k with
  | zero => simp [accB]
  | succ n ih => rw [acc_succ, List.length_append]; have := h n; omega

set_option maxRecDepth 100000 in
set_option maxHeartbeats 1000000 in
theorem first_out (m t x : Int) (w : World) (hE : Env w) (h : m < 0 ∨ (¬ m < 0 ∧ (100 < m ∨ (¬ 100 < m ∧ (t < 0 ∨ (¬ t < 0 ∧ m < t)))))) :
    Calls Tryz.prog 4 #[.int .i64 m, .int .i64 t, .int .i64 x] w fun e w' => e = .returned (.bool true) ∧ Fr none' w w' := by
  have A := awake_any w hE
  rcases h with h1 | ⟨h1, h2 | ⟨h2, h3 | ⟨h3, h4⟩⟩⟩
  · have g1 : decide (m < 0) = true := decide_eq_true h1
    clear h1
    go_enter Tryz.func4, Tryz.ntmps4
    go_wp2_with fail
    refine A.mono ?_
    rintro e w1 ⟨rfl, f1⟩
    go_wp2_with fail
    go_ret
    exact ⟨rfl, f1⟩
  · have g1 : decide (m < 0) = false := decide_eq_false h1
    have g2 : decide (100 < m) = true := decide_eq_true h2
    clear h1 h2
    go_enter Tryz.func4, Tryz.ntmps4
    go_wp2_with fail
    refine A.mono ?_
    rintro e w1 ⟨rfl, f1⟩
    go_wp2_with fail
    go_ret
    exact ⟨rfl, f1⟩
  · have g1 : decide (m < 0) = false := decide_eq_false h1
    have g2 : decide (100 < m) = false := decide_eq_false h2
    have g3 : decide (t < 0) = true := decide_eq_true h3
    clear h1 h2 h3
    go_enter Tryz.func4, Tryz.ntmps4
    go_wp2_with fail
    refine A.mono ?_
    rintro e w1 ⟨rfl, f1⟩
    go_wp2_with fail
    go_ret
    exact ⟨rfl, f1⟩
  · have g1 : decide (m < 0) = false := decide_eq_false h1
    have g2 : decide (100 < m) = false := decide_eq_false h2
    have g3 : decide (t < 0) = false := decide_eq_false h3
    have g4 : decide (m < t) = true := decide_eq_true h4
    clear h1 h2 h3 h4
    go_enter Tryz.func4, Tryz.ntmps4
    go_wp2_with fail
    refine A.mono ?_
    rintro e w1 ⟨rfl, f1⟩
    go_wp2_with fail
    go_ret
    exact ⟨rfl, f1⟩

set_option maxRecDepth 100000 in
set_option maxHeartbeats 4000000 in
theorem first_pos (m t k : Nat) (x : Int) (w : World) (hE : Env w) (hm : m ≤ 100) (ht : t ≤ m) (hk : k < 16) (hx : x.tmod 16 = (k : Int)) :
    Calls Tryz.prog 4 #[.int .i64 (m : Int), .int .i64 (t : Int), .int .i64 x] w fun e w' => e = .returned (.bool true) ∧ Fr none' w w' := by
  have A := awake_any w hE
  have g1 : decide ((m : Int) < 0) = false := decide_eq_false (by omega)
  have g2 : decide (100 < (m : Int)) = false := decide_eq_false (by omega)
  have g3 : decide ((t : Int) < 0) = false := decide_eq_false (by omega)
  have g4 : decide ((m : Int) < (t : Int)) = false := decide_eq_false (by omega)
  have g4' : decide (m < t) = false := decide_eq_false (by omega)
  have HE := hid' hE
  have HF := hid' (show m ≤ 100 ∧ t ≤ m ∧ k < 16 from ⟨hm, ht, hk⟩)
  obtain ⟨wb, hwb⟩ : ∃ z : ByteArray, z = ⟨(wrongB k).toArray⟩ := ⟨_, rfl⟩
  have HWB := hid' hwb
  have u3 : decide (x.tmod 16 < 0) = false := decide_eq_false (by omega)
  clear hE hm ht hk hwb
  go_enter Tryz.func4, Tryz.ntmps4
  go_wp2_with fail
  refine A.mono ?_
  rintro e w1 ⟨rfl, f1⟩
  clear A
  have ra0 := (row_alloc w1 wrow 9).alloc (.cells erow 24)
  have rb0 := rowTwo w1 (.cells wrow 9) erow 24
  have f2 := (f1.alloc (.cells wrow 9)).alloc (.cells erow 24)
  have RA := hid' ra0
  have RB := hid' rb0
  unfold wrow erow at f2
  clear ra0 rb0 f1
  go_wp2_with fail
  have ra1 := RA.out
  have rb1 := RB.out
  unfold wrow at ra1
  unfold erow at ra1 rb1
  unfold wrow at rb1
  go_loopw [11, 12] (fun a i wr => ∃ (j : Nat) (z : ByteArray), j ≤ m + 1 ∧ a = .string z ∧ i = .int .i64 (j : Int) ∧ Hid (z = ⟨(accB (firF m t k) j).toArray⟩) ∧ Fr none' w wr ∧ Hid (Row wr w1.heap.size wrow 9) ∧ Hid (Row wr (w1.heap.size + 1) erow 24)) (fun _ i _ => m + 1 - (intOf i).toNat)
  case atStart => exact ⟨0, ⟨#[]⟩, by omega, rfl, rfl, hid' rfl, f2, hid' ra1, hid' rb1⟩
  case round =>
    clear f2 ra1 rb1 RA RB g1 g2 g3 g4 g4' u3 hx
    obtain ⟨i, z, hi, rfl, rfl, HZ, fk, ra, rb⟩ := hrel
    have HF' := HF.out
    have hmb : m ≤ 100 := HF'.1
    have htm : t ≤ m := HF'.2.1
    have hk16 : k < 16 := HF'.2.2
    by_cases hlt : i ≤ m
    · have u1 : decide ((i : Int) ≤ (m : Int)) = true := decide_eq_true (by omega)
      have u2 : decide (i ≤ m) = true := decide_eq_true hlt
      have l1 := acc_len60 (firF m t k) (fun j => fir_len m t k j hk16) i
      have lw : (wrongB k).length ≤ 40 := wrong_len ⟨k, hk16⟩
      have c0 : wr.cell? ⟨w1.heap.size, k, none⟩ = some (.string wb) := by rw [ra.out.cell, wrow_get k hk16, HWB.out]
      have i1 : 0 ≤ (k : Int) ∧ (k : Int) < 16 := by omega
      clear HF'
      by_cases hit : i = t
      · have v1 : ((i : Int) == (t : Int)) = true := by simp [hit]
        have v2 : (i == t) = true := by simp [hit]
        by_cases hif : i < m
        · have v3 : decide ((i : Int) < (m : Int)) = true := decide_eq_true (by omega)
          have v4 : decide (i < m) = true := decide_eq_true hif
          have a1 := add_run (accB (firF m t k) i) (wrongB k) (by omega)
          have a2 := add_run (accB (firF m t k) i ++ wrongB k) [10] (by rw [List.length_append]; simp only [List.length_cons, List.length_nil]; omega)
          have a3 := add_run (accB (firF m t k) i ++ wrongB k ++ [10]) [110, 111, 112, 32, 59, 32, 102, 105, 110, 101, 10] (by rw [List.length_append, List.length_append]; simp only [List.length_cons, List.length_nil]; omega)
          obtain ⟨t1, h1⟩ : ∃ z : ByteArray, z = ⟨(accB (firF m t k) i ++ wrongB k).toArray⟩ := ⟨_, rfl⟩
          obtain ⟨t2, h2⟩ : ∃ z : ByteArray, z = ⟨(accB (firF m t k) i ++ wrongB k ++ [10]).toArray⟩ := ⟨_, rfl⟩
          obtain ⟨t3, h3⟩ : ∃ z : ByteArray, z = ⟨(accB (firF m t k) i ++ wrongB k ++ [10] ++ [110, 111, 112, 32, 59, 32, 102, 105, 110, 101, 10]).toArray⟩ := ⟨_, rfl⟩
          simp only [strV] at a1 a2 a3
          rw [← HZ.out, ← HWB.out, ← h1] at a1
          rw [← h1, ← h2] at a2
          rw [← h2, ← h3] at a3
          have HT : Hid (t3 = ⟨(accB (firF m t k) (i + 1)).toArray⟩) := by
            show t3 = _
            rw [h3, acc_succ]; unfold firF; rw [if_pos hit, if_pos hif]; simp [fineB]
          clear h1 h2 h3 l1 lw hit hif HZ
          go_wp2_with fail
          go_roundw
          case rel => exact ⟨i + 1, t3, by omega, rfl, by go_num, HT, fk, ra, rb⟩
          case measure => simp [intOf]; omega
        · have v3 : decide ((i : Int) < (m : Int)) = false := decide_eq_false (by omega)
          have v4 : decide (i < m) = false := decide_eq_false hif
          have a1 := add_run (accB (firF m t k) i) (wrongB k) (by omega)
          have a2 := add_run (accB (firF m t k) i ++ wrongB k) [10] (by rw [List.length_append]; simp only [List.length_cons, List.length_nil]; omega)
          obtain ⟨t1, h1⟩ : ∃ z : ByteArray, z = ⟨(accB (firF m t k) i ++ wrongB k).toArray⟩ := ⟨_, rfl⟩
          obtain ⟨t2, h2⟩ : ∃ z : ByteArray, z = ⟨(accB (firF m t k) i ++ wrongB k ++ [10]).toArray⟩ := ⟨_, rfl⟩
          simp only [strV] at a1 a2
          rw [← HZ.out, ← HWB.out, ← h1] at a1
          rw [← h1, ← h2] at a2
          have HT : Hid (t2 = ⟨(accB (firF m t k) (i + 1)).toArray⟩) := by
            show t2 = _
            rw [h2, acc_succ]; unfold firF; rw [if_pos hit, if_neg hif]; simp [fineB]
          clear h1 h2 l1 lw hit hif HZ
          go_wp2_with fail
          go_roundw
          case rel => exact ⟨i + 1, t2, by omega, rfl, by go_num, HT, fk, ra, rb⟩
          case measure => simp [intOf]; omega
      · have v1 : ((i : Int) == (t : Int)) = false := by simp; omega
        have v2 : (i == t) = false := by simp; omega
        by_cases hif : i < m
        · have v3 : decide ((i : Int) < (m : Int)) = true := decide_eq_true (by omega)
          have v4 : decide (i < m) = true := decide_eq_true hif
          have a3 := add_run (accB (firF m t k) i) [110, 111, 112, 32, 59, 32, 102, 105, 110, 101, 10] (by simp only [List.length_cons, List.length_nil]; omega)
          obtain ⟨t3, h3⟩ : ∃ z : ByteArray, z = ⟨(accB (firF m t k) i ++ [110, 111, 112, 32, 59, 32, 102, 105, 110, 101, 10]).toArray⟩ := ⟨_, rfl⟩
          simp only [strV] at a3
          rw [← HZ.out, ← h3] at a3
          have HT : Hid (t3 = ⟨(accB (firF m t k) (i + 1)).toArray⟩) := by
            show t3 = _
            rw [h3, acc_succ]; unfold firF; rw [if_neg hit, if_pos hif]; simp [fineB]
          clear h3 l1 lw hit hif HZ
          go_wp2_with fail
          go_roundw
          case rel => exact ⟨i + 1, t3, by omega, rfl, by go_num, HT, fk, ra, rb⟩
          case measure => simp [intOf]; omega
        · have v3 : decide ((i : Int) < (m : Int)) = false := decide_eq_false (by omega)
          have v4 : decide (i < m) = false := decide_eq_false hif
          have HT : Hid (z = ⟨(accB (firF m t k) (i + 1)).toArray⟩) := by
            show z = _
            rw [HZ.out, acc_succ]; unfold firF; rw [if_neg hit, if_neg hif]; simp [fineB]
          clear l1 lw hit hif HZ
          go_wp2_with fail
          go_roundw
          case rel => exact ⟨i + 1, z, by omega, rfl, by go_num, HT, fk, ra, rb⟩
          case measure => simp [intOf]; omega
    · obtain rfl : i = m + 1 := by omega
      have u1 : decide (((m + 1 : Nat) : Int) ≤ (m : Int)) = false := decide_eq_false (by omega)
      have u1' : decide ((m : Int) + 1 ≤ (m : Int)) = false := decide_eq_false (by omega)
      have u2 : decide (m + 1 ≤ m) = false := decide_eq_false (by omega)
      have B1 := asmis_any 0 z wr (HE.out.keep fk)
      rw [show z.data.toList = accB (firF m t k) (m + 1) by rw [HZ.out], first_built m t k htm, first_pure k m t hk16 hmb htm] at B1
      have e1 : (((t + 1 : Nat) : Int) == (t : Int) + 1) = true := by simp
      have e2 : ((wrongN k : Int) == (wrongN k : Int)) = true := by simp
      have e3 : IntKind.i64.wrap ((t : Int) + 1) = (t : Int) + 1 := by
        simp only [IntKind.wrap, IntKind.bits, IntKind.signed]
        simp
        omega
      have i1 : 0 ≤ (k : Int) ∧ (k : Int) < 16 := by omega
      clear HZ HF'
      go_wp2_with fail
      refine B1.mono ?_
      rintro e w2 ⟨⟨v1, rfl, o1⟩, f3⟩
      obtain rfl : v1 = .slice none 0 0 := o1.2 rfl
      have c0 : w2.cell? ⟨w1.heap.size + 1, k, none⟩ = some (.int .i64 (wrongN k : Int)) := by rw [(rb.out.keep f3 (fun h => h)).cell, erow_get k hk16]
      replace fk := fk.trans f3
      clear B1 f3 o1
      go_wp2_with fail
      go_ret
      exact ⟨rfl, fk⟩

set_option maxRecDepth 100000 in
set_option maxHeartbeats 4000000 in
theorem first_neg (m t k : Nat) (x : Int) (w : World) (hE : Env w) (hm : m ≤ 100) (ht : t ≤ m) (hk : k < 16) (hx : x.tmod 16 < 0) (hk2 : -(x.tmod 16) = (k : Int)) :
    Calls Tryz.prog 4 #[.int .i64 (m : Int), .int .i64 (t : Int), .int .i64 x] w fun e w' => e = .returned (.bool true) ∧ Fr none' w w' := by
  have A := awake_any w hE
  have g1 : decide ((m : Int) < 0) = false := decide_eq_false (by omega)
  have g2 : decide (100 < (m : Int)) = false := decide_eq_false (by omega)
  have g3 : decide ((t : Int) < 0) = false := decide_eq_false (by omega)
  have g4 : decide ((m : Int) < (t : Int)) = false := decide_eq_false (by omega)
  have g4' : decide (m < t) = false := decide_eq_false (by omega)
  have HE := hid' hE
  have HF := hid' (show m ≤ 100 ∧ t ≤ m ∧ k < 16 from ⟨hm, ht, hk⟩)
  obtain ⟨wb, hwb⟩ : ∃ z : ByteArray, z = ⟨(wrongB k).toArray⟩ := ⟨_, rfl⟩
  have HWB := hid' hwb
  have u3 : decide (x.tmod 16 < 0) = true := decide_eq_true hx
  have hw : IntKind.i64.wrap (-(x.tmod 16)) = (k : Int) := by
    rw [← hk2]
    simp only [IntKind.wrap, IntKind.bits, IntKind.signed]
    simp
    omega
  clear hE hm ht hk hwb hx hk2
  go_enter Tryz.func4, Tryz.ntmps4
  go_wp2_with fail
  refine A.mono ?_
  rintro e w1 ⟨rfl, f1⟩
  clear A
  have ra0 := (row_alloc w1 wrow 9).alloc (.cells erow 24)
  have rb0 := rowTwo w1 (.cells wrow 9) erow 24
  have f2 := (f1.alloc (.cells wrow 9)).alloc (.cells erow 24)
  have RA := hid' ra0
  have RB := hid' rb0
  unfold wrow erow at f2
  clear ra0 rb0 f1
  go_wp2_with fail
  have ra1 := RA.out
  have rb1 := RB.out
  unfold wrow at ra1
  unfold erow at ra1 rb1
  unfold wrow at rb1
  go_loopw [11, 12] (fun a i wr => ∃ (j : Nat) (z : ByteArray), j ≤ m + 1 ∧ a = .string z ∧ i = .int .i64 (j : Int) ∧ Hid (z = ⟨(accB (firF m t k) j).toArray⟩) ∧ Fr none' w wr ∧ Hid (Row wr w1.heap.size wrow 9) ∧ Hid (Row wr (w1.heap.size + 1) erow 24)) (fun _ i _ => m + 1 - (intOf i).toNat)
  case atStart => exact ⟨0, ⟨#[]⟩, by omega, rfl, rfl, hid' rfl, f2, hid' ra1, hid' rb1⟩
  case round =>
    clear f2 ra1 rb1 RA RB g1 g2 g3 g4 g4' u3 hw
    obtain ⟨i, z, hi, rfl, rfl, HZ, fk, ra, rb⟩ := hrel
    have HF' := HF.out
    have hmb : m ≤ 100 := HF'.1
    have htm : t ≤ m := HF'.2.1
    have hk16 : k < 16 := HF'.2.2
    by_cases hlt : i ≤ m
    · have u1 : decide ((i : Int) ≤ (m : Int)) = true := decide_eq_true (by omega)
      have u2 : decide (i ≤ m) = true := decide_eq_true hlt
      have l1 := acc_len60 (firF m t k) (fun j => fir_len m t k j hk16) i
      have lw : (wrongB k).length ≤ 40 := wrong_len ⟨k, hk16⟩
      have c0 : wr.cell? ⟨w1.heap.size, k, none⟩ = some (.string wb) := by rw [ra.out.cell, wrow_get k hk16, HWB.out]
      have i1 : 0 ≤ (k : Int) ∧ (k : Int) < 16 := by omega
      clear HF'
      by_cases hit : i = t
      · have v1 : ((i : Int) == (t : Int)) = true := by simp [hit]
        have v2 : (i == t) = true := by simp [hit]
        by_cases hif : i < m
        · have v3 : decide ((i : Int) < (m : Int)) = true := decide_eq_true (by omega)
          have v4 : decide (i < m) = true := decide_eq_true hif
          have a1 := add_run (accB (firF m t k) i) (wrongB k) (by omega)
          have a2 := add_run (accB (firF m t k) i ++ wrongB k) [10] (by rw [List.length_append]; simp only [List.length_cons, List.length_nil]; omega)
          have a3 := add_run (accB (firF m t k) i ++ wrongB k ++ [10]) [110, 111, 112, 32, 59, 32, 102, 105, 110, 101, 10] (by rw [List.length_append, List.length_append]; simp only [List.length_cons, List.length_nil]; omega)
          obtain ⟨t1, h1⟩ : ∃ z : ByteArray, z = ⟨(accB (firF m t k) i ++ wrongB k).toArray⟩ := ⟨_, rfl⟩
          obtain ⟨t2, h2⟩ : ∃ z : ByteArray, z = ⟨(accB (firF m t k) i ++ wrongB k ++ [10]).toArray⟩ := ⟨_, rfl⟩
          obtain ⟨t3, h3⟩ : ∃ z : ByteArray, z = ⟨(accB (firF m t k) i ++ wrongB k ++ [10] ++ [110, 111, 112, 32, 59, 32, 102, 105, 110, 101, 10]).toArray⟩ := ⟨_, rfl⟩
          simp only [strV] at a1 a2 a3
          rw [← HZ.out, ← HWB.out, ← h1] at a1
          rw [← h1, ← h2] at a2
          rw [← h2, ← h3] at a3
          have HT : Hid (t3 = ⟨(accB (firF m t k) (i + 1)).toArray⟩) := by
            show t3 = _
            rw [h3, acc_succ]; unfold firF; rw [if_pos hit, if_pos hif]; simp [fineB]
          clear h1 h2 h3 l1 lw hit hif HZ
          go_wp2_with fail
          go_roundw
          case rel => exact ⟨i + 1, t3, by omega, rfl, by go_num, HT, fk, ra, rb⟩
          case measure => simp [intOf]; omega
        · have v3 : decide ((i : Int) < (m : Int)) = false := decide_eq_false (by omega)
          have v4 : decide (i < m) = false := decide_eq_false hif
          have a1 := add_run (accB (firF m t k) i) (wrongB k) (by omega)
          have a2 := add_run (accB (firF m t k) i ++ wrongB k) [10] (by rw [List.length_append]; simp only [List.length_cons, List.length_nil]; omega)
          obtain ⟨t1, h1⟩ : ∃ z : ByteArray, z = ⟨(accB (firF m t k) i ++ wrongB k).toArray⟩ := ⟨_, rfl⟩
          obtain ⟨t2, h2⟩ : ∃ z : ByteArray, z = ⟨(accB (firF m t k) i ++ wrongB k ++ [10]).toArray⟩ := ⟨_, rfl⟩
          simp only [strV] at a1 a2
          rw [← HZ.out, ← HWB.out, ← h1] at a1
          rw [← h1, ← h2] at a2
          have HT : Hid (t2 = ⟨(accB (firF m t k) (i + 1)).toArray⟩) := by
            show t2 = _
            rw [h2, acc_succ]; unfold firF; rw [if_pos hit, if_neg hif]; simp [fineB]
          clear h1 h2 l1 lw hit hif HZ
          go_wp2_with fail
          go_roundw
          case rel => exact ⟨i + 1, t2, by omega, rfl, by go_num, HT, fk, ra, rb⟩
          case measure => simp [intOf]; omega
      · have v1 : ((i : Int) == (t : Int)) = false := by simp; omega
        have v2 : (i == t) = false := by simp; omega
        by_cases hif : i < m
        · have v3 : decide ((i : Int) < (m : Int)) = true := decide_eq_true (by omega)
          have v4 : decide (i < m) = true := decide_eq_true hif
          have a3 := add_run (accB (firF m t k) i) [110, 111, 112, 32, 59, 32, 102, 105, 110, 101, 10] (by simp only [List.length_cons, List.length_nil]; omega)
          obtain ⟨t3, h3⟩ : ∃ z : ByteArray, z = ⟨(accB (firF m t k) i ++ [110, 111, 112, 32, 59, 32, 102, 105, 110, 101, 10]).toArray⟩ := ⟨_, rfl⟩
          simp only [strV] at a3
          rw [← HZ.out, ← h3] at a3
          have HT : Hid (t3 = ⟨(accB (firF m t k) (i + 1)).toArray⟩) := by
            show t3 = _
            rw [h3, acc_succ]; unfold firF; rw [if_neg hit, if_pos hif]; simp [fineB]
          clear h3 l1 lw hit hif HZ
          go_wp2_with fail
          go_roundw
          case rel => exact ⟨i + 1, t3, by omega, rfl, by go_num, HT, fk, ra, rb⟩
          case measure => simp [intOf]; omega
        · have v3 : decide ((i : Int) < (m : Int)) = false := decide_eq_false (by omega)
          have v4 : decide (i < m) = false := decide_eq_false hif
          have HT : Hid (z = ⟨(accB (firF m t k) (i + 1)).toArray⟩) := by
            show z = _
            rw [HZ.out, acc_succ]; unfold firF; rw [if_neg hit, if_neg hif]; simp [fineB]
          clear l1 lw hit hif HZ
          go_wp2_with fail
          go_roundw
          case rel => exact ⟨i + 1, z, by omega, rfl, by go_num, HT, fk, ra, rb⟩
          case measure => simp [intOf]; omega
    · obtain rfl : i = m + 1 := by omega
      have u1 : decide (((m + 1 : Nat) : Int) ≤ (m : Int)) = false := decide_eq_false (by omega)
      have u1' : decide ((m : Int) + 1 ≤ (m : Int)) = false := decide_eq_false (by omega)
      have u2 : decide (m + 1 ≤ m) = false := decide_eq_false (by omega)
      have B1 := asmis_any 0 z wr (HE.out.keep fk)
      rw [show z.data.toList = accB (firF m t k) (m + 1) by rw [HZ.out], first_built m t k htm, first_pure k m t hk16 hmb htm] at B1
      have e1 : (((t + 1 : Nat) : Int) == (t : Int) + 1) = true := by simp
      have e2 : ((wrongN k : Int) == (wrongN k : Int)) = true := by simp
      have e3 : IntKind.i64.wrap ((t : Int) + 1) = (t : Int) + 1 := by
        simp only [IntKind.wrap, IntKind.bits, IntKind.signed]
        simp
        omega
      have i1 : 0 ≤ (k : Int) ∧ (k : Int) < 16 := by omega
      clear HZ HF'
      go_wp2_with fail
      refine B1.mono ?_
      rintro e w2 ⟨⟨v1, rfl, o1⟩, f3⟩
      obtain rfl : v1 = .slice none 0 0 := o1.2 rfl
      have c0 : w2.cell? ⟨w1.heap.size + 1, k, none⟩ = some (.int .i64 (wrongN k : Int)) := by rw [(rb.out.keep f3 (fun h => h)).cell, erow_get k hk16]
      replace fk := fk.trans f3
      clear B1 f3 o1
      go_wp2_with fail
      go_ret
      exact ⟨rfl, fk⟩

theorem firstl_any (m t x : Int) (w : World) (hE : Env w) :
    Calls Tryz.prog 4 #[.int .i64 m, .int .i64 t, .int .i64 x] w fun e w' => e = .returned (.bool true) ∧ Below w.heap.size w w' := by
  have H : Calls Tryz.prog 4 #[.int .i64 m, .int .i64 t, .int .i64 x] w fun e w' => e = .returned (.bool true) ∧ Fr none' w w' := by
    by_cases h : 0 ≤ m ∧ m ≤ 100 ∧ 0 ≤ t ∧ t ≤ m
    · obtain ⟨m', rfl⟩ : ∃ q : Nat, m = (q : Int) := ⟨m.toNat, by omega⟩
      obtain ⟨t', rfl⟩ : ∃ q : Nat, t = (q : Int) := ⟨t.toNat, by omega⟩
      have hb : -16 < x.tmod 16 ∧ x.tmod 16 < 16 := by
        have h1 := Int.tmod_lt_of_pos x (show (0 : Int) < 16 by decide)
        refine ⟨?_, h1⟩
        rcases Int.le_total 0 x with h | h
        · have := Int.tmod_nonneg (16 : Int) h; omega
        · have h3 := Int.tmod_lt_of_pos (-x) (show (0 : Int) < 16 by decide)
          rw [Int.neg_tmod] at h3; omega
      by_cases hn : x.tmod 16 < 0
      · exact first_neg m' t' (-(x.tmod 16)).toNat x w hE (by omega) (by omega) (by omega) hn (by omega)
      · exact first_pos m' t' (x.tmod 16).toNat x w hE (by omega) (by omega) (by omega) (by omega)
    · exact first_out m t x w hE (by omega)
  exact H.mono fun _ _ ⟨he, hf⟩ => ⟨he, hf.below (Nat.le_refl _) (fun _ h => h.elim)⟩

end Go.Proofs.YtiifadnmiambpabGreatDoor
