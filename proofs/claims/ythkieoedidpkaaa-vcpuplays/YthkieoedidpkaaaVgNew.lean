/-
  Contracts of package vgic's New, within and has over the translation. No statement is proved here.
-/
import Derived.Test.YthkieoedidpkaaaVgRow
import Derived.Carry
namespace Go.Proofs.Ythkieoedidpkaaa
open Go.RowKit

set_option maxHeartbeats 400000 in
theorem within_any (n a b : Int) (w : World) : Calls Try.prog 59 #[.int .i64 n, .int .i64 a, .int .i64 b] w fun e w' => e = .returned (.bool (decide (a ≤ n) && decide (n ≤ b))) ∧ w' = w := by
  by_cases h : a ≤ n
  · have t1 : decide (a ≤ n) = true := by simpa using h
    rw [t1]
    go_enter Try.func59, Try.ntmps59
    go_wp2
    go_ret
    exact ⟨rfl, rfl⟩
  · have t1 : decide (a ≤ n) = false := by simpa using h
    rw [t1]
    go_enter Try.func59, Try.ntmps59
    go_wp2
    go_ret
    exact ⟨rfl, rfl⟩

set_option maxHeartbeats 400000 in
theorem has_any (n : Int) (w : World) : Calls Try.prog 60 #[.int .i64 n] w fun e w' => e = .returned (.bool (isI n)) ∧ w' = w := by
  go_enter Try.func60, Try.ntmps60
  go_wp2_with fail
  refine (within_any _ _ _ _).mono ?_
  rintro e w1 ⟨rfl, rfl⟩
  go_wp2_with fail
  go_ret
  exact ⟨rfl, rfl⟩

def zcells : Array Value := #[.int .i64 0, .int .i64 0, .map none, .map none] ++ Array.replicate 64 (.bool false) ++ #[.int .i64 0, .int .i64 0, .int .i64 0]

set_option maxRecDepth 100000 in
theorem zero_vg (w : World) : Sem.run Try.prog (zeroValue 85) w = .ok (.agg zcells) w := by kernel_rfl

def isR (n : Int) : Bool := decide (1 ≤ n) && decide (n ≤ 16)
theorem isR_iff {n : Int} : isR n = true ↔ 1 ≤ n ∧ n ≤ 16 := by simp [isR]

theorem z_off (j : Nat) (hj : j < 64) : zcells[4 + j]? = some (.bool false) := by
  unfold zcells
  rw [Array.getElem?_append_left (by simp; omega), Array.getElem?_append_right (by simp)]
  simp [hj]
theorem z_size : zcells.size = 71 := rfl

theorem sv_zero (B : Bk) (lrs : Int) : Sv ((((zcells.setIfInBounds 0 (.int .i64 lrs)).setIfInBounds 1 (.int .i64 256)).setIfInBounds 2 (.map (some B.p))).setIfInBounds 3 (.map (some B.a))) B (zeroV lrs) := by
  refine ⟨by simp [z_size], ?_, ?_, ?_, ?_, fun j hj => ?_, ?_, ?_, ?_⟩
  · simp [z_size, zeroV]
  · simp [z_size, zeroV]
  · simp [z_size]
  · simp [z_size]
  · simp (disch := omega) only [Array.getElem?_setIfInBounds, if_neg]
    exact z_off j hj
  · simp (disch := omega) only [Array.getElem?_setIfInBounds, if_neg]; rfl
  · simp (disch := omega) only [Array.getElem?_setIfInBounds, if_neg]; rfl
  · simp (disch := omega) only [Array.getElem?_setIfInBounds, if_neg]; rfl

set_option maxHeartbeats 400000 in
theorem new_bad (w : World) (n : Int) (hn : isR n = false) : Calls Try.prog 48 #[.int .i64 n] w fun e w' => e = .returned (.tuple #[.pointer none, .int .i64 1]) ∧ w' = w := by
  have hh : (decide (1 ≤ n) && decide (n ≤ 16)) = false := hn
  go_enter Try.func48, Try.ntmps48
  go_wp2_with fail
  refine (within_any _ _ _ _).mono ?_
  rintro e w1 ⟨rfl, rfl⟩
  rw [hh]
  go_wp2_with fail
  go_ret2
  exact ⟨rfl, rfl⟩

set_option maxRecDepth 100000 in
set_option maxHeartbeats 2000000 in
theorem new_ok (w : World) (n : Int) (hn : isR n = true) : Calls Try.prog 48 #[.int .i64 n] w fun e w' => ∃ B : Bk, e = .returned (.tuple #[.pointer (some ⟨B.b, 0, none⟩), .int .i64 0]) ∧ (∀ k, B.s k → w.heap.size ≤ k) ∧ Fr none' w w' ∧ IsVg w' B (zeroV n) := by
  have hh : (decide (1 ≤ n) && decide (n ≤ 16)) = true := hn
  have hmm := @run_makeMap Try.prog
  have hz := zero_vg
  have hsv := sv_zero ⟨w.heap.size + 2, w.heap.size, w.heap.size + 1⟩ n
  have hsz := z_size
  obtain ⟨Z, hZ⟩ : ∃ Z, Z = zcells := ⟨_, rfl⟩
  rw [← hZ] at hz hsv hsz
  have q1 : (Z = #[]) = False := by
    simp only [eq_iff_iff, iff_false]
    rintro rfl
    simp at hsz
  have q2 : (Z.size < 2) = False := by simp [hsz]
  have q3 : (Z.size < 3) = False := by simp [hsz]
  have q4 : (Z.size < 4) = False := by simp [hsz]
  have HS : Hid (Sv ((((Z.setIfInBounds 0 (.int .i64 n)).setIfInBounds 1 (.int .i64 256)).setIfInBounds 2 (.map (some w.heap.size))).setIfInBounds 3 (.map (some (w.heap.size + 1)))) ⟨w.heap.size + 2, w.heap.size, w.heap.size + 1⟩ (zeroV n)) := hsv
  clear hZ hsv hsz
  go_enter Try.func48, Try.ntmps48
  go_wp2_with fail
  refine (within_any _ _ _ _).mono ?_
  rintro e w1 ⟨rfl, rfl⟩
  rw [hh]
  go_wp2_with fail
  go_ret2
  have f0 := (Fr.refl none' w1).alloc (.map #[] 0)
  have f1 := f0.alloc (.map #[] 0)
  have g0 := gm_made w1
  have g1 := gm_made (w1.alloc (.map #[] 0))
  rw [show (w1.alloc (.map #[] 0)).heap.size = w1.heap.size + 1 by simp] at g1
  have g2 := g0.keep ((Fr.refl none' (w1.alloc (.map #[] 0))).alloc (.map #[] 0)) (fun h => h)
  have fz := (Fr.refl none' ((w1.alloc (.map #[] 0)).alloc (.map #[] 0))).alloc (.cells ((((Z.setIfInBounds 0 (.int .i64 n)).setIfInBounds 1 (.int .i64 256)).setIfInBounds 2 (.map (some w1.heap.size))).setIfInBounds 3 (.map (some (w1.heap.size + 1)))) 85)
  have rz := row_alloc ((w1.alloc (.map #[] 0)).alloc (.map #[] 0)) ((((Z.setIfInBounds 0 (.int .i64 n)).setIfInBounds 1 (.int .i64 256)).setIfInBounds 2 (.map (some w1.heap.size))).setIfInBounds 3 (.map (some (w1.heap.size + 1)))) 85
  rw [show ((w1.alloc (.map #[] 0)).alloc (.map #[] 0)).heap.size = w1.heap.size + 2 by simp] at rz
  refine ⟨⟨w1.heap.size + 2, w1.heap.size, w1.heap.size + 1⟩, rfl, ?_, f1.trans fz, ⟨_, rz, HS.out⟩, g2.keep fz (fun h => h), g1.keep fz (fun h => h), ⟨by show w1.heap.size + 2 ≠ w1.heap.size; omega, by show w1.heap.size + 2 ≠ w1.heap.size + 1; omega, by show w1.heap.size ≠ w1.heap.size + 1; omega⟩, good_zero (isR_iff.mp hn)⟩
  rintro k (rfl | rfl | rfl) <;> simp

end Go.Proofs.Ythkieoedidpkaaa
