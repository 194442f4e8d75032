/-
  The walk of the law RamLays, case by case: no act comes in, the frame is not there. No statement is proved here.
-/
import Derived.Test.YtbgioghaloodlaaLaysBase
namespace Go.Proofs.Ytbgioghaloodlaa
open Go.RowKit

set_option maxRecDepth 100000 in
set_option maxHeartbeats 4000000 in
theorem lays_neg_any_in_nil (w : World) (a0 : Option Addr) (cap : Nat) (n : Int) (hn : n < 0) (sp : Option Addr) (m c : Nat) (other : Nat) (ho : other < 4) :
    Calls Try.prog 7 #[.slice a0 0 cap, .int .i64 n, .slice sp m c, .int .i64 (other : Int)] w fun e w' => e = .returned (.bool true) ∧ Fr none' w w' := by
  have u1 : decide (0 ≤ n) = false := by simp; omega
  have HN : Hid (¬ (0 ≤ n ∧ n < ((4 : Nat) : Int))) := fun h => by omega
  have u4 : decide (0 ≤ (other : Int)) = true := by simp
  have u5 : decide ((other : Int) < 4) = true := by simp; omega
  go_enter Try.func7, Try.ntmps7
  go_wp2_with fail
  refine (awake_any _).mono ?_
  rintro e w1 ⟨rfl, f1⟩
  have z1 := f1.size
  go_wp2_with fail
  refine (ap_new _).mono ?_
  rintro e w2 ⟨rfl, f2, r2⟩
  go_wp2_with fail
  refine (ap_rnew _).mono ?_
  rintro e w3 ⟨rfl, f3, r3⟩
  have t3 := twin_new (B := w.heap.size) z1 r2 f3 r3
  have z2 := r2.head.lt
  replace f3 := (f1.trans f2).trans f3
  clear f1 f2 r2 r3
  generalize List.replicate (64 * 4) (0 : UInt8) = bs0 at *
  go_wp2_with fail
  refine wp_loop_rounds 1 ?_
  rw [rounds_succ]
  have tk := t3
  have fk := f3
  clear t3 f3
  have R := tk.ram
  have F := fk
  have zw := F.size
  have zp := R.head.lt
  have hlen := R.len
  clear tk fk
  go_wp2_with fail
  refine (frame_bad _ _ _ _ _ _ R HN).mono ?_
  rintro e wa ⟨rfl, rfl⟩
  go_wp2_with fail
  refine (lay_bad _ _ _ _ _ _ R HN _ _ _).mono ?_
  rintro e wb ⟨rfl, rfl⟩
  go_wp2_with fail
  refine (frame_bad _ _ _ _ _ _ R HN).mono ?_
  rintro e wc ⟨rfl, rfl⟩
  have hl1 := hlen
  go_wp2_with fail
  refine wp_loop_rounds 1 ?_
  rw [rounds_succ]
  go_wp2_with fail
  refine (clear_ok _ _ _ _ _ _ R ho).mono ?_
  rintro e we ⟨rfl, fe, R'⟩
  have ze := fe.size
  replace F := F.newer fe z1
  replace R := R'
  clear R' fe
  have HZ : Hid (frameOf (putAt bs0 (other * 64) (List.replicate 64 0)) other = List.replicate 64 0) := clear_own bs0 other hl1 ho
  have hl2 : (putAt bs0 (other * 64) (List.replicate 64 0)).length = 64 * 4 := by rw [length_putAt, hl1]
  generalize putAt bs0 (other * 64) (List.replicate 64 0) = bs2 at *
  go_wp2_with fail
  refine (frame_bad _ _ _ _ _ _ R HN).mono ?_
  rintro e wf ⟨rfl, rfl⟩
  go_wp2_with fail
  refine (ap_frame _ _ _ other _ _ R rfl ho).mono ?_
  rintro e wg ⟨rfl, fg, xg⟩
  have zg := xg.lt
  replace F := F.trans fg
  clear fg
  rw [HZ.out] at xg
  have XG := zeros_all xg
  clear xg
  go_wp2_with fail
  go_loopw [27] (fun i wr => ∃ k : Nat, k ≤ 64 ∧ i = .int .i64 k ∧ wr = wg) (fun i _ => 64 - (intOf i).toNat)
  case atStart => exact ⟨0, by omega, rfl, rfl⟩
  case round =>
    obtain ⟨k, hk, rfl, rfl⟩ := hrel
    by_cases hlt : k < 64
    · have i1 : decide ((k : Int) < 64) = true := by simp; omega
      have i2 : 0 ≤ (k : Int) ∧ (k : Int) < 64 := by omega
      have eg := XG.out k hlt
      go_wp2
      go_roundw
      case rel => exact ⟨k + 1, by omega, by go_num, trivial⟩
      case measure => simp [intOf]; omega
    · obtain rfl : k = 64 := by omega
      go_wp2_with fail
      refine (same_nil _ _ _ _ _).mono ?_
      rintro e wh ⟨rfl, rfl⟩
      go_wp2_with fail
      go_ret
      exact ⟨rfl, F⟩

set_option maxRecDepth 100000 in
set_option maxHeartbeats 4000000 in
theorem lays_neg_any_out_nil (w : World) (a0 : Option Addr) (cap : Nat) (n : Int) (hn : n < 0) (sp : Option Addr) (m c : Nat) (other : Int) (ho : ¬ (0 ≤ other ∧ other < ((4 : Nat) : Int))) :
    Calls Try.prog 7 #[.slice a0 0 cap, .int .i64 n, .slice sp m c, .int .i64 other] w fun e w' => e = .returned (.bool true) ∧ Fr none' w w' := by
  have u1 : decide (0 ≤ n) = false := by simp; omega
  have HN : Hid (¬ (0 ≤ n ∧ n < ((4 : Nat) : Int))) := fun h => by omega
  have HO' : Hid (¬ (0 ≤ other ∧ other < ((4 : Nat) : Int))) := ho
  clear ho
  go_enter Try.func7, Try.ntmps7
  go_wp2_with fail
  refine (awake_any _).mono ?_
  rintro e w1 ⟨rfl, f1⟩
  have z1 := f1.size
  go_wp2_with fail
  refine (ap_new _).mono ?_
  rintro e w2 ⟨rfl, f2, r2⟩
  go_wp2_with fail
  refine (ap_rnew _).mono ?_
  rintro e w3 ⟨rfl, f3, r3⟩
  have t3 := twin_new (B := w.heap.size) z1 r2 f3 r3
  have z2 := r2.head.lt
  replace f3 := (f1.trans f2).trans f3
  clear f1 f2 r2 r3
  generalize List.replicate (64 * 4) (0 : UInt8) = bs0 at *
  go_wp2_with fail
  refine wp_loop_rounds 1 ?_
  rw [rounds_succ]
  have tk := t3
  have fk := f3
  clear t3 f3
  have R := tk.ram
  have F := fk
  have zw := F.size
  have zp := R.head.lt
  have hlen := R.len
  clear tk fk
  go_wp2_with fail
  refine (frame_bad _ _ _ _ _ _ R HN).mono ?_
  rintro e wa ⟨rfl, rfl⟩
  go_wp2_with fail
  refine (lay_bad _ _ _ _ _ _ R HN _ _ _).mono ?_
  rintro e wb ⟨rfl, rfl⟩
  go_wp2_with fail
  refine (frame_bad _ _ _ _ _ _ R HN).mono ?_
  rintro e wc ⟨rfl, rfl⟩
  have hl1 := hlen
  go_wp2_with fail
  refine wp_loop_rounds 1 ?_
  rw [rounds_succ]
  go_wp2_with fail
  refine (clear_bad _ _ _ _ _ _ R HO').mono ?_
  rintro e we ⟨rfl, rfl⟩
  have hl2 := hl1
  go_wp2_with fail
  refine (frame_bad _ _ _ _ _ _ R HN).mono ?_
  rintro e wf ⟨rfl, rfl⟩
  go_wp2_with fail
  refine (frame_bad _ _ _ _ _ _ R HO').mono ?_
  rintro e wg ⟨rfl, rfl⟩
  go_wp2_with fail
  refine wp_loop_rounds 1 ?_
  rw [rounds_succ]
  go_wp2_with fail
  refine (same_nil _ _ _ _ _).mono ?_
  rintro e wh ⟨rfl, rfl⟩
  by_cases hneg : 0 ≤ other
  · have u4 : decide (0 ≤ other) = true := by simpa using hneg
    have u5 : decide (other < 4) = false := by have := HO'.out; simp; omega
    go_wp2_with fail
    go_ret
    exact ⟨rfl, F⟩
  · have u4 : decide (0 ≤ other) = false := by simpa using hneg
    go_wp2_with fail
    go_ret
    exact ⟨rfl, F⟩

set_option maxRecDepth 100000 in
set_option maxHeartbeats 4000000 in
theorem lays_far_any_in_nil (w : World) (a0 : Option Addr) (cap : Nat) (n : Int) (hn : 4 ≤ n) (sp : Option Addr) (m c : Nat) (other : Nat) (ho : other < 4) :
    Calls Try.prog 7 #[.slice a0 0 cap, .int .i64 n, .slice sp m c, .int .i64 (other : Int)] w fun e w' => e = .returned (.bool true) ∧ Fr none' w w' := by
  have u1 : decide (0 ≤ n) = true := by simp; omega
  have u2 : decide (n < 4) = false := by simp; omega
  have HN : Hid (¬ (0 ≤ n ∧ n < ((4 : Nat) : Int))) := fun h => by omega
  have u4 : decide (0 ≤ (other : Int)) = true := by simp
  have u5 : decide ((other : Int) < 4) = true := by simp; omega
  go_enter Try.func7, Try.ntmps7
  go_wp2_with fail
  refine (awake_any _).mono ?_
  rintro e w1 ⟨rfl, f1⟩
  have z1 := f1.size
  go_wp2_with fail
  refine (ap_new _).mono ?_
  rintro e w2 ⟨rfl, f2, r2⟩
  go_wp2_with fail
  refine (ap_rnew _).mono ?_
  rintro e w3 ⟨rfl, f3, r3⟩
  have t3 := twin_new (B := w.heap.size) z1 r2 f3 r3
  have z2 := r2.head.lt
  replace f3 := (f1.trans f2).trans f3
  clear f1 f2 r2 r3
  generalize List.replicate (64 * 4) (0 : UInt8) = bs0 at *
  go_wp2_with fail
  refine wp_loop_rounds 1 ?_
  rw [rounds_succ]
  have tk := t3
  have fk := f3
  clear t3 f3
  have R := tk.ram
  have F := fk
  have zw := F.size
  have zp := R.head.lt
  have hlen := R.len
  clear tk fk
  go_wp2_with fail
  refine (frame_bad _ _ _ _ _ _ R HN).mono ?_
  rintro e wa ⟨rfl, rfl⟩
  go_wp2_with fail
  refine (lay_bad _ _ _ _ _ _ R HN _ _ _).mono ?_
  rintro e wb ⟨rfl, rfl⟩
  go_wp2_with fail
  refine (frame_bad _ _ _ _ _ _ R HN).mono ?_
  rintro e wc ⟨rfl, rfl⟩
  have hl1 := hlen
  go_wp2_with fail
  refine wp_loop_rounds 1 ?_
  rw [rounds_succ]
  go_wp2_with fail
  refine (clear_ok _ _ _ _ _ _ R ho).mono ?_
  rintro e we ⟨rfl, fe, R'⟩
  have ze := fe.size
  replace F := F.newer fe z1
  replace R := R'
  clear R' fe
  have HZ : Hid (frameOf (putAt bs0 (other * 64) (List.replicate 64 0)) other = List.replicate 64 0) := clear_own bs0 other hl1 ho
  have hl2 : (putAt bs0 (other * 64) (List.replicate 64 0)).length = 64 * 4 := by rw [length_putAt, hl1]
  generalize putAt bs0 (other * 64) (List.replicate 64 0) = bs2 at *
  go_wp2_with fail
  refine (frame_bad _ _ _ _ _ _ R HN).mono ?_
  rintro e wf ⟨rfl, rfl⟩
  go_wp2_with fail
  refine (ap_frame _ _ _ other _ _ R rfl ho).mono ?_
  rintro e wg ⟨rfl, fg, xg⟩
  have zg := xg.lt
  replace F := F.trans fg
  clear fg
  rw [HZ.out] at xg
  have XG := zeros_all xg
  clear xg
  go_wp2_with fail
  go_loopw [27] (fun i wr => ∃ k : Nat, k ≤ 64 ∧ i = .int .i64 k ∧ wr = wg) (fun i _ => 64 - (intOf i).toNat)
  case atStart => exact ⟨0, by omega, rfl, rfl⟩
  case round =>
    obtain ⟨k, hk, rfl, rfl⟩ := hrel
    by_cases hlt : k < 64
    · have i1 : decide ((k : Int) < 64) = true := by simp; omega
      have i2 : 0 ≤ (k : Int) ∧ (k : Int) < 64 := by omega
      have eg := XG.out k hlt
      go_wp2
      go_roundw
      case rel => exact ⟨k + 1, by omega, by go_num, trivial⟩
      case measure => simp [intOf]; omega
    · obtain rfl : k = 64 := by omega
      go_wp2_with fail
      refine (same_nil _ _ _ _ _).mono ?_
      rintro e wh ⟨rfl, rfl⟩
      go_wp2_with fail
      go_ret
      exact ⟨rfl, F⟩

set_option maxRecDepth 100000 in
set_option maxHeartbeats 4000000 in
theorem lays_far_any_out_nil (w : World) (a0 : Option Addr) (cap : Nat) (n : Int) (hn : 4 ≤ n) (sp : Option Addr) (m c : Nat) (other : Int) (ho : ¬ (0 ≤ other ∧ other < ((4 : Nat) : Int))) :
    Calls Try.prog 7 #[.slice a0 0 cap, .int .i64 n, .slice sp m c, .int .i64 other] w fun e w' => e = .returned (.bool true) ∧ Fr none' w w' := by
  have u1 : decide (0 ≤ n) = true := by simp; omega
  have u2 : decide (n < 4) = false := by simp; omega
  have HN : Hid (¬ (0 ≤ n ∧ n < ((4 : Nat) : Int))) := fun h => by omega
  have HO' : Hid (¬ (0 ≤ other ∧ other < ((4 : Nat) : Int))) := ho
  clear ho
  go_enter Try.func7, Try.ntmps7
  go_wp2_with fail
  refine (awake_any _).mono ?_
  rintro e w1 ⟨rfl, f1⟩
  have z1 := f1.size
  go_wp2_with fail
  refine (ap_new _).mono ?_
  rintro e w2 ⟨rfl, f2, r2⟩
  go_wp2_with fail
  refine (ap_rnew _).mono ?_
  rintro e w3 ⟨rfl, f3, r3⟩
  have t3 := twin_new (B := w.heap.size) z1 r2 f3 r3
  have z2 := r2.head.lt
  replace f3 := (f1.trans f2).trans f3
  clear f1 f2 r2 r3
  generalize List.replicate (64 * 4) (0 : UInt8) = bs0 at *
  go_wp2_with fail
  refine wp_loop_rounds 1 ?_
  rw [rounds_succ]
  have tk := t3
  have fk := f3
  clear t3 f3
  have R := tk.ram
  have F := fk
  have zw := F.size
  have zp := R.head.lt
  have hlen := R.len
  clear tk fk
  go_wp2_with fail
  refine (frame_bad _ _ _ _ _ _ R HN).mono ?_
  rintro e wa ⟨rfl, rfl⟩
  go_wp2_with fail
  refine (lay_bad _ _ _ _ _ _ R HN _ _ _).mono ?_
  rintro e wb ⟨rfl, rfl⟩
  go_wp2_with fail
  refine (frame_bad _ _ _ _ _ _ R HN).mono ?_
  rintro e wc ⟨rfl, rfl⟩
  have hl1 := hlen
  go_wp2_with fail
  refine wp_loop_rounds 1 ?_
  rw [rounds_succ]
  go_wp2_with fail
  refine (clear_bad _ _ _ _ _ _ R HO').mono ?_
  rintro e we ⟨rfl, rfl⟩
  have hl2 := hl1
  go_wp2_with fail
  refine (frame_bad _ _ _ _ _ _ R HN).mono ?_
  rintro e wf ⟨rfl, rfl⟩
  go_wp2_with fail
  refine (frame_bad _ _ _ _ _ _ R HO').mono ?_
  rintro e wg ⟨rfl, rfl⟩
  go_wp2_with fail
  refine wp_loop_rounds 1 ?_
  rw [rounds_succ]
  go_wp2_with fail
  refine (same_nil _ _ _ _ _).mono ?_
  rintro e wh ⟨rfl, rfl⟩
  by_cases hneg : 0 ≤ other
  · have u4 : decide (0 ≤ other) = true := by simpa using hneg
    have u5 : decide (other < 4) = false := by have := HO'.out; simp; omega
    go_wp2_with fail
    go_ret
    exact ⟨rfl, F⟩
  · have u4 : decide (0 ≤ other) = false := by simpa using hneg
    go_wp2_with fail
    go_ret
    exact ⟨rfl, F⟩

end Go.Proofs.Ytbgioghaloodlaa
