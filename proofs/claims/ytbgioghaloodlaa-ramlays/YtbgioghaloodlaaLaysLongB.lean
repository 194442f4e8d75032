/-
  The walk of the law RamLays, case by case: more than sixty acts come in, the frame is not there. No statement is proved here.
-/
import Derived.Test.YtbgioghaloodlaaLaysBase
namespace Go.Proofs.Ytbgioghaloodlaa
open Go.RowKit

set_option maxRecDepth 100000 in
set_option maxHeartbeats 4000000 in
theorem lays_neg_any_in_long (w : World) (b o len cap : Nat) (ha : Acts w w.heap.size b o len) (hl : len ≤ 9223372036854775807) (hlen60 : 60 < len) (n : Int) (hn : n < 0) (sp : Option Addr) (m c : Nat) (other : Nat) (ho : other < 4) :
    Calls Try.prog 7 #[.slice (some ⟨b, o, none⟩) len cap, .int .i64 n, .slice sp m c, .int .i64 (other : Int)] w fun e w' => e = .returned (.bool true) ∧ Fr none' w w' := by
  have u1 : decide (0 ≤ n) = false := by simp; omega
  have HN : Hid (¬ (0 ≤ n ∧ n < ((4 : Nat) : Int))) := fun h => by omega
  have u4 : decide (0 ≤ (other : Int)) = true := by simp
  have u5 : decide ((other : Int) < 4) = true := by simp; omega
  go_enter Try.func7, Try.ntmps7
  go_wp2_with fail
  refine (awake_any _).mono ?_
  rintro e w1 ⟨rfl, f1⟩
  have z1 := f1.size
  go_wp2_with fail
  refine (ap_new _).mono ?_
  rintro e w2 ⟨rfl, f2, r2⟩
  go_wp2_with fail
  refine (ap_rnew _).mono ?_
  rintro e w3 ⟨rfl, f3, r3⟩
  have t3 := twin_new (B := w.heap.size) z1 r2 f3 r3
  have z2 := r2.head.lt
  replace f3 := (f1.trans f2).trans f3
  clear f1 f2 r2 r3
  generalize List.replicate (64 * 4) (0 : UInt8) = bs0 at *
  go_wp2_with fail
  go_loopw [14] (fun i wr => ∃ k : Nat, k ≤ 60 ∧ i = .int .i64 k ∧ Fr none' w wr ∧ ∃ bs, Twin wr w.heap.size (w1.heap.size + 1) w1.heap.size (w2.heap.size + 1) w2.heap.size 4 bs) (fun i _ => 60 - (intOf i).toNat)
  case atStart => exact ⟨0, by omega, rfl, f3, _, t3⟩
  case round =>
    clear f3 t3
    obtain ⟨k, hk, rfl, fk, bs, tk⟩ := hrel
    by_cases hlt : k < 60
    · have t1 : decide ((k : Int) < (len : Int)) = true := by simp; omega
      have t2 : decide ((k : Int) < 60) = true := by simp; omega
      have i1 : 0 ≤ (k : Int) ∧ (k : Int) < (len : Int) := by omega
      obtain ⟨dO, a, s, v, m', c', sp', data', hA⟩ := ha.each k (by omega)
      have hA' := hA.keep fk ha.old (fun _ _ h => h)
      obtain ⟨e0, e1, e2, e3, e4, eb, em, eo, et, ew⟩ := hA'
      have HEO : Hid (0 < m' → ∀ x, sp' = some x → x.block < w.heap.size) := eo
      clear eo hA
      go_wp2_with fail
      refine (does_any _ _ _ _ _ _ _ _ tk _ _ _ _ _ _ _ _ eb em HEO et ew).mono ?_
      rintro e w4 ⟨rfl, f4, bs', t4⟩
      have f5 := fk.own f4 z1 (by omega)
      clear fk f4 tk e0 e1 e2 e3 e4 eb
      go_wp2_with fail
      go_roundw
      case rel => exact ⟨k + 1, by omega, by go_num, f5, bs', t4⟩
      case measure => simp [intOf]; omega
    · have t1 : decide ((k : Int) < (len : Int)) = true := by simp; omega
      have t2 : decide ((k : Int) < 60) = false := by simp; omega
      clear ha
      have R := tk.ram
      have F := fk
      have zw := F.size
      have zp := R.head.lt
      have hlen := R.len
      clear tk fk
      go_wp2_with fail
      refine (frame_bad _ _ _ _ _ _ R HN).mono ?_
      rintro e wa ⟨rfl, rfl⟩
      go_wp2_with fail
      refine (lay_bad _ _ _ _ _ _ R HN _ _ _).mono ?_
      rintro e wb ⟨rfl, rfl⟩
      go_wp2_with fail
      refine (frame_bad _ _ _ _ _ _ R HN).mono ?_
      rintro e wc ⟨rfl, rfl⟩
      have hl1 := hlen
      go_wp2_with fail
      refine wp_loop_rounds 1 ?_
      rw [rounds_succ]
      go_wp2_with fail
      refine (clear_ok _ _ _ _ _ _ R ho).mono ?_
      rintro e we ⟨rfl, fe, R'⟩
      have ze := fe.size
      replace F := F.newer fe z1
      replace R := R'
      clear R' fe
      have HZ : Hid (frameOf (putAt bs (other * 64) (List.replicate 64 0)) other = List.replicate 64 0) := clear_own bs other hl1 ho
      have hl2 : (putAt bs (other * 64) (List.replicate 64 0)).length = 64 * 4 := by rw [length_putAt, hl1]
      generalize putAt bs (other * 64) (List.replicate 64 0) = bs2 at *
      go_wp2_with fail
      refine (frame_bad _ _ _ _ _ _ R HN).mono ?_
      rintro e wf ⟨rfl, rfl⟩
      go_wp2_with fail
      refine (ap_frame _ _ _ other _ _ R rfl ho).mono ?_
      rintro e wg ⟨rfl, fg, xg⟩
      have zg := xg.lt
      replace F := F.trans fg
      clear fg
      rw [HZ.out] at xg
      have XG := zeros_all xg
      clear xg
      go_wp2_with fail
      go_loopw [27] (fun i wr => ∃ k : Nat, k ≤ 64 ∧ i = .int .i64 k ∧ wr = wg) (fun i _ => 64 - (intOf i).toNat)
      case atStart => exact ⟨0, by omega, rfl, rfl⟩
      case round =>
        obtain ⟨k, hk, rfl, rfl⟩ := hrel
        by_cases hlt : k < 64
        · have i1 : decide ((k : Int) < 64) = true := by simp; omega
          have i2 : 0 ≤ (k : Int) ∧ (k : Int) < 64 := by omega
          have eg := XG.out k hlt
          go_wp2
          go_roundw
          case rel => exact ⟨k + 1, by omega, by go_num, trivial⟩
          case measure => simp [intOf]; omega
        · obtain rfl : k = 64 := by omega
          go_wp2_with fail
          refine (same_nil _ _ _ _ _).mono ?_
          rintro e wh ⟨rfl, rfl⟩
          go_wp2_with fail
          go_ret
          exact ⟨rfl, F⟩

set_option maxRecDepth 100000 in
set_option maxHeartbeats 4000000 in
theorem lays_neg_any_out_long (w : World) (b o len cap : Nat) (ha : Acts w w.heap.size b o len) (hl : len ≤ 9223372036854775807) (hlen60 : 60 < len) (n : Int) (hn : n < 0) (sp : Option Addr) (m c : Nat) (other : Int) (ho : ¬ (0 ≤ other ∧ other < ((4 : Nat) : Int))) :
    Calls Try.prog 7 #[.slice (some ⟨b, o, none⟩) len cap, .int .i64 n, .slice sp m c, .int .i64 other] w fun e w' => e = .returned (.bool true) ∧ Fr none' w w' := by
  have u1 : decide (0 ≤ n) = false := by simp; omega
  have HN : Hid (¬ (0 ≤ n ∧ n < ((4 : Nat) : Int))) := fun h => by omega
  have HO' : Hid (¬ (0 ≤ other ∧ other < ((4 : Nat) : Int))) := ho
  clear ho
  go_enter Try.func7, Try.ntmps7
  go_wp2_with fail
  refine (awake_any _).mono ?_
  rintro e w1 ⟨rfl, f1⟩
  have z1 := f1.size
  go_wp2_with fail
  refine (ap_new _).mono ?_
  rintro e w2 ⟨rfl, f2, r2⟩
  go_wp2_with fail
  refine (ap_rnew _).mono ?_
  rintro e w3 ⟨rfl, f3, r3⟩
  have t3 := twin_new (B := w.heap.size) z1 r2 f3 r3
  have z2 := r2.head.lt
  replace f3 := (f1.trans f2).trans f3
  clear f1 f2 r2 r3
  generalize List.replicate (64 * 4) (0 : UInt8) = bs0 at *
  go_wp2_with fail
  go_loopw [14] (fun i wr => ∃ k : Nat, k ≤ 60 ∧ i = .int .i64 k ∧ Fr none' w wr ∧ ∃ bs, Twin wr w.heap.size (w1.heap.size + 1) w1.heap.size (w2.heap.size + 1) w2.heap.size 4 bs) (fun i _ => 60 - (intOf i).toNat)
  case atStart => exact ⟨0, by omega, rfl, f3, _, t3⟩
  case round =>
    clear f3 t3
    obtain ⟨k, hk, rfl, fk, bs, tk⟩ := hrel
    by_cases hlt : k < 60
    · have t1 : decide ((k : Int) < (len : Int)) = true := by simp; omega
      have t2 : decide ((k : Int) < 60) = true := by simp; omega
      have i1 : 0 ≤ (k : Int) ∧ (k : Int) < (len : Int) := by omega
      obtain ⟨dO, a, s, v, m', c', sp', data', hA⟩ := ha.each k (by omega)
      have hA' := hA.keep fk ha.old (fun _ _ h => h)
      obtain ⟨e0, e1, e2, e3, e4, eb, em, eo, et, ew⟩ := hA'
      have HEO : Hid (0 < m' → ∀ x, sp' = some x → x.block < w.heap.size) := eo
      clear eo hA
      go_wp2_with fail
      refine (does_any _ _ _ _ _ _ _ _ tk _ _ _ _ _ _ _ _ eb em HEO et ew).mono ?_
      rintro e w4 ⟨rfl, f4, bs', t4⟩
      have f5 := fk.own f4 z1 (by omega)
      clear fk f4 tk e0 e1 e2 e3 e4 eb
      go_wp2_with fail
      go_roundw
      case rel => exact ⟨k + 1, by omega, by go_num, f5, bs', t4⟩
      case measure => simp [intOf]; omega
    · have t1 : decide ((k : Int) < (len : Int)) = true := by simp; omega
      have t2 : decide ((k : Int) < 60) = false := by simp; omega
      clear ha
      have R := tk.ram
      have F := fk
      have zw := F.size
      have zp := R.head.lt
      have hlen := R.len
      clear tk fk
      go_wp2_with fail
      refine (frame_bad _ _ _ _ _ _ R HN).mono ?_
      rintro e wa ⟨rfl, rfl⟩
      go_wp2_with fail
      refine (lay_bad _ _ _ _ _ _ R HN _ _ _).mono ?_
      rintro e wb ⟨rfl, rfl⟩
      go_wp2_with fail
      refine (frame_bad _ _ _ _ _ _ R HN).mono ?_
      rintro e wc ⟨rfl, rfl⟩
      have hl1 := hlen
      go_wp2_with fail
      refine wp_loop_rounds 1 ?_
      rw [rounds_succ]
      go_wp2_with fail
      refine (clear_bad _ _ _ _ _ _ R HO').mono ?_
      rintro e we ⟨rfl, rfl⟩
      have hl2 := hl1
      go_wp2_with fail
      refine (frame_bad _ _ _ _ _ _ R HN).mono ?_
      rintro e wf ⟨rfl, rfl⟩
      go_wp2_with fail
      refine (frame_bad _ _ _ _ _ _ R HO').mono ?_
      rintro e wg ⟨rfl, rfl⟩
      go_wp2_with fail
      refine wp_loop_rounds 1 ?_
      rw [rounds_succ]
      go_wp2_with fail
      refine (same_nil _ _ _ _ _).mono ?_
      rintro e wh ⟨rfl, rfl⟩
      by_cases hneg : 0 ≤ other
      · have u4 : decide (0 ≤ other) = true := by simpa using hneg
        have u5 : decide (other < 4) = false := by have := HO'.out; simp; omega
        go_wp2_with fail
        go_ret
        exact ⟨rfl, F⟩
      · have u4 : decide (0 ≤ other) = false := by simpa using hneg
        go_wp2_with fail
        go_ret
        exact ⟨rfl, F⟩

set_option maxRecDepth 100000 in
set_option maxHeartbeats 4000000 in
theorem lays_far_any_in_long (w : World) (b o len cap : Nat) (ha : Acts w w.heap.size b o len) (hl : len ≤ 9223372036854775807) (hlen60 : 60 < len) (n : Int) (hn : 4 ≤ n) (sp : Option Addr) (m c : Nat) (other : Nat) (ho : other < 4) :
    Calls Try.prog 7 #[.slice (some ⟨b, o, none⟩) len cap, .int .i64 n, .slice sp m c, .int .i64 (other : Int)] w fun e w' => e = .returned (.bool true) ∧ Fr none' w w' := by
  have u1 : decide (0 ≤ n) = true := by simp; omega
  have u2 : decide (n < 4) = false := by simp; omega
  have HN : Hid (¬ (0 ≤ n ∧ n < ((4 : Nat) : Int))) := fun h => by omega
  have u4 : decide (0 ≤ (other : Int)) = true := by simp
  have u5 : decide ((other : Int) < 4) = true := by simp; omega
  go_enter Try.func7, Try.ntmps7
  go_wp2_with fail
  refine (awake_any _).mono ?_
  rintro e w1 ⟨rfl, f1⟩
  have z1 := f1.size
  go_wp2_with fail
  refine (ap_new _).mono ?_
  rintro e w2 ⟨rfl, f2, r2⟩
  go_wp2_with fail
  refine (ap_rnew _).mono ?_
  rintro e w3 ⟨rfl, f3, r3⟩
  have t3 := twin_new (B := w.heap.size) z1 r2 f3 r3
  have z2 := r2.head.lt
  replace f3 := (f1.trans f2).trans f3
  clear f1 f2 r2 r3
  generalize List.replicate (64 * 4) (0 : UInt8) = bs0 at *
  go_wp2_with fail
  go_loopw [14] (fun i wr => ∃ k : Nat, k ≤ 60 ∧ i = .int .i64 k ∧ Fr none' w wr ∧ ∃ bs, Twin wr w.heap.size (w1.heap.size + 1) w1.heap.size (w2.heap.size + 1) w2.heap.size 4 bs) (fun i _ => 60 - (intOf i).toNat)
  case atStart => exact ⟨0, by omega, rfl, f3, _, t3⟩
  case round =>
    clear f3 t3
    obtain ⟨k, hk, rfl, fk, bs, tk⟩ := hrel
    by_cases hlt : k < 60
    · have t1 : decide ((k : Int) < (len : Int)) = true := by simp; omega
      have t2 : decide ((k : Int) < 60) = true := by simp; omega
      have i1 : 0 ≤ (k : Int) ∧ (k : Int) < (len : Int) := by omega
      obtain ⟨dO, a, s, v, m', c', sp', data', hA⟩ := ha.each k (by omega)
      have hA' := hA.keep fk ha.old (fun _ _ h => h)
      obtain ⟨e0, e1, e2, e3, e4, eb, em, eo, et, ew⟩ := hA'
      have HEO : Hid (0 < m' → ∀ x, sp' = some x → x.block < w.heap.size) := eo
      clear eo hA
      go_wp2_with fail
      refine (does_any _ _ _ _ _ _ _ _ tk _ _ _ _ _ _ _ _ eb em HEO et ew).mono ?_
      rintro e w4 ⟨rfl, f4, bs', t4⟩
      have f5 := fk.own f4 z1 (by omega)
      clear fk f4 tk e0 e1 e2 e3 e4 eb
      go_wp2_with fail
      go_roundw
      case rel => exact ⟨k + 1, by omega, by go_num, f5, bs', t4⟩
      case measure => simp [intOf]; omega
    · have t1 : decide ((k : Int) < (len : Int)) = true := by simp; omega
      have t2 : decide ((k : Int) < 60) = false := by simp; omega
      clear ha
      have R := tk.ram
      have F := fk
      have zw := F.size
      have zp := R.head.lt
      have hlen := R.len
      clear tk fk
      go_wp2_with fail
      refine (frame_bad _ _ _ _ _ _ R HN).mono ?_
      rintro e wa ⟨rfl, rfl⟩
      go_wp2_with fail
      refine (lay_bad _ _ _ _ _ _ R HN _ _ _).mono ?_
      rintro e wb ⟨rfl, rfl⟩
      go_wp2_with fail
      refine (frame_bad _ _ _ _ _ _ R HN).mono ?_
      rintro e wc ⟨rfl, rfl⟩
      have hl1 := hlen
      go_wp2_with fail
      refine wp_loop_rounds 1 ?_
      rw [rounds_succ]
      go_wp2_with fail
      refine (clear_ok _ _ _ _ _ _ R ho).mono ?_
      rintro e we ⟨rfl, fe, R'⟩
      have ze := fe.size
      replace F := F.newer fe z1
      replace R := R'
      clear R' fe
      have HZ : Hid (frameOf (putAt bs (other * 64) (List.replicate 64 0)) other = List.replicate 64 0) := clear_own bs other hl1 ho
      have hl2 : (putAt bs (other * 64) (List.replicate 64 0)).length = 64 * 4 := by rw [length_putAt, hl1]
      generalize putAt bs (other * 64) (List.replicate 64 0) = bs2 at *
      go_wp2_with fail
      refine (frame_bad _ _ _ _ _ _ R HN).mono ?_
      rintro e wf ⟨rfl, rfl⟩
      go_wp2_with fail
      refine (ap_frame _ _ _ other _ _ R rfl ho).mono ?_
      rintro e wg ⟨rfl, fg, xg⟩
      have zg := xg.lt
      replace F := F.trans fg
      clear fg
      rw [HZ.out] at xg
      have XG := zeros_all xg
      clear xg
      go_wp2_with fail
      go_loopw [27] (fun i wr => ∃ k : Nat, k ≤ 64 ∧ i = .int .i64 k ∧ wr = wg) (fun i _ => 64 - (intOf i).toNat)
      case atStart => exact ⟨0, by omega, rfl, rfl⟩
      case round =>
        obtain ⟨k, hk, rfl, rfl⟩ := hrel
        by_cases hlt : k < 64
        · have i1 : decide ((k : Int) < 64) = true := by simp; omega
          have i2 : 0 ≤ (k : Int) ∧ (k : Int) < 64 := by omega
          have eg := XG.out k hlt
          go_wp2
          go_roundw
          case rel => exact ⟨k + 1, by omega, by go_num, trivial⟩
          case measure => simp [intOf]; omega
        · obtain rfl : k = 64 := by omega
          go_wp2_with fail
          refine (same_nil _ _ _ _ _).mono ?_
          rintro e wh ⟨rfl, rfl⟩
          go_wp2_with fail
          go_ret
          exact ⟨rfl, F⟩

set_option maxRecDepth 100000 in
set_option maxHeartbeats 4000000 in
theorem lays_far_any_out_long (w : World) (b o len cap : Nat) (ha : Acts w w.heap.size b o len) (hl : len ≤ 9223372036854775807) (hlen60 : 60 < len) (n : Int) (hn : 4 ≤ n) (sp : Option Addr) (m c : Nat) (other : Int) (ho : ¬ (0 ≤ other ∧ other < ((4 : Nat) : Int))) :
    Calls Try.prog 7 #[.slice (some ⟨b, o, none⟩) len cap, .int .i64 n, .slice sp m c, .int .i64 other] w fun e w' => e = .returned (.bool true) ∧ Fr none' w w' := by
  have u1 : decide (0 ≤ n) = true := by simp; omega
  have u2 : decide (n < 4) = false := by simp; omega
  have HN : Hid (¬ (0 ≤ n ∧ n < ((4 : Nat) : Int))) := fun h => by omega
  have HO' : Hid (¬ (0 ≤ other ∧ other < ((4 : Nat) : Int))) := ho
  clear ho
  go_enter Try.func7, Try.ntmps7
  go_wp2_with fail
  refine (awake_any _).mono ?_
  rintro e w1 ⟨rfl, f1⟩
  have z1 := f1.size
  go_wp2_with fail
  refine (ap_new _).mono ?_
  rintro e w2 ⟨rfl, f2, r2⟩
  go_wp2_with fail
  refine (ap_rnew _).mono ?_
  rintro e w3 ⟨rfl, f3, r3⟩
  have t3 := twin_new (B := w.heap.size) z1 r2 f3 r3
  have z2 := r2.head.lt
  replace f3 := (f1.trans f2).trans f3
  clear f1 f2 r2 r3
  generalize List.replicate (64 * 4) (0 : UInt8) = bs0 at *
  go_wp2_with fail
  go_loopw [14] (fun i wr => ∃ k : Nat, k ≤ 60 ∧ i = .int .i64 k ∧ Fr none' w wr ∧ ∃ bs, Twin wr w.heap.size (w1.heap.size + 1) w1.heap.size (w2.heap.size + 1) w2.heap.size 4 bs) (fun i _ => 60 - (intOf i).toNat)
  case atStart => exact ⟨0, by omega, rfl, f3, _, t3⟩
  case round =>
    clear f3 t3
    obtain ⟨k, hk, rfl, fk, bs, tk⟩ := hrel
    by_cases hlt : k < 60
    · have t1 : decide ((k : Int) < (len : Int)) = true := by simp; omega
      have t2 : decide ((k : Int) < 60) = true := by simp; omega
      have i1 : 0 ≤ (k : Int) ∧ (k : Int) < (len : Int) := by omega
      obtain ⟨dO, a, s, v, m', c', sp', data', hA⟩ := ha.each k (by omega)
      have hA' := hA.keep fk ha.old (fun _ _ h => h)
      obtain ⟨e0, e1, e2, e3, e4, eb, em, eo, et, ew⟩ := hA'
      have HEO : Hid (0 < m' → ∀ x, sp' = some x → x.block < w.heap.size) := eo
      clear eo hA
      go_wp2_with fail
      refine (does_any _ _ _ _ _ _ _ _ tk _ _ _ _ _ _ _ _ eb em HEO et ew).mono ?_
      rintro e w4 ⟨rfl, f4, bs', t4⟩
      have f5 := fk.own f4 z1 (by omega)
      clear fk f4 tk e0 e1 e2 e3 e4 eb
      go_wp2_with fail
      go_roundw
      case rel => exact ⟨k + 1, by omega, by go_num, f5, bs', t4⟩
      case measure => simp [intOf]; omega
    · have t1 : decide ((k : Int) < (len : Int)) = true := by simp; omega
      have t2 : decide ((k : Int) < 60) = false := by simp; omega
      clear ha
      have R := tk.ram
      have F := fk
      have zw := F.size
      have zp := R.head.lt
      have hlen := R.len
      clear tk fk
      go_wp2_with fail
      refine (frame_bad _ _ _ _ _ _ R HN).mono ?_
      rintro e wa ⟨rfl, rfl⟩
      go_wp2_with fail
      refine (lay_bad _ _ _ _ _ _ R HN _ _ _).mono ?_
      rintro e wb ⟨rfl, rfl⟩
      go_wp2_with fail
      refine (frame_bad _ _ _ _ _ _ R HN).mono ?_
      rintro e wc ⟨rfl, rfl⟩
      have hl1 := hlen
      go_wp2_with fail
      refine wp_loop_rounds 1 ?_
      rw [rounds_succ]
      go_wp2_with fail
      refine (clear_bad _ _ _ _ _ _ R HO').mono ?_
      rintro e we ⟨rfl, rfl⟩
      have hl2 := hl1
      go_wp2_with fail
      refine (frame_bad _ _ _ _ _ _ R HN).mono ?_
      rintro e wf ⟨rfl, rfl⟩
      go_wp2_with fail
      refine (frame_bad _ _ _ _ _ _ R HO').mono ?_
      rintro e wg ⟨rfl, rfl⟩
      go_wp2_with fail
      refine wp_loop_rounds 1 ?_
      rw [rounds_succ]
      go_wp2_with fail
      refine (same_nil _ _ _ _ _).mono ?_
      rintro e wh ⟨rfl, rfl⟩
      by_cases hneg : 0 ≤ other
      · have u4 : decide (0 ≤ other) = true := by simpa using hneg
        have u5 : decide (other < 4) = false := by have := HO'.out; simp; omega
        go_wp2_with fail
        go_ret
        exact ⟨rfl, F⟩
      · have u4 : decide (0 ≤ other) = false := by simpa using hneg
        go_wp2_with fail
        go_ret
        exact ⟨rfl, F⟩

end Go.Proofs.Ytbgioghaloodlaa
