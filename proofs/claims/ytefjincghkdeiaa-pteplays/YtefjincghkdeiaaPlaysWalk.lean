/-
  The walk of the law PtePlays: whatever is written to tables and read from them, each answer is the same, and so are all bytes in the end: for every number of frames and every list of acts the law returns true and nothing old turns.
-/
import Derived.Test.YtefjincghkdeiaaPteActs
import Derived.Test.YtefjincghkdeiaaPteAwake
namespace Go.Proofs.Ytefjincghkdeiaa
open Go.RowKit

set_option maxHeartbeats 800000 in
theorem plays_none (f : Int) (a0 : Option Addr) (len cap : Nat) (w : World) (hf : ¬ (1 ≤ f ∧ f ≤ 1024)) :
    Calls Try.prog 6 #[.int .i64 f, .slice a0 len cap] w fun e w' => e = .returned (.bool true) ∧ Fr none' w w' := by
  have HF : Hid (¬ (1 ≤ f ∧ f ≤ 1024)) := hf
  clear hf
  go_enter Try.func6, Try.ntmps6
  go_wp2_with fail
  refine (awake_any _).mono ?_
  rintro e w1 ⟨rfl, f1⟩
  go_wp2_with fail
  refine (new_none _ _ HF).mono ?_
  rintro e w2 ⟨rfl, rfl⟩
  go_wp2_with fail
  refine (rnew_none _ _ HF).mono ?_
  rintro e w2 ⟨rfl, rfl⟩
  go_wp2_with fail
  go_ret
  exact ⟨rfl, f1⟩

set_option maxRecDepth 100000 in
set_option maxHeartbeats 1600000 in
theorem plays_row (nf b o len cap : Nat) (w : World) (hf1 : 1 ≤ nf) (hf2 : nf ≤ 1024) (hl : len ≤ 9223372036854775807) (ha : Acts w w.heap.size b o len) :
    Calls Try.prog 6 #[.int .i64 (nf : Int), .slice (some ⟨b, o, none⟩) len cap] w fun e w' => e = .returned (.bool true) ∧ Fr none' w w' := by
  go_enter Try.func6, Try.ntmps6
  go_wp2_with fail
  refine (awake_any _).mono ?_
  rintro e w1 ⟨rfl, f1⟩
  have z1 := f1.size
  go_wp2_with fail
  refine (new_nat _ _ hf1 hf2).mono ?_
  rintro e w2 ⟨rfl, f2, r2⟩
  go_wp2_with fail
  refine (rnew_nat _ _ hf1 hf2).mono ?_
  rintro e w3 ⟨rfl, f3, r3⟩
  have t3 := twin_new (B := w.heap.size) z1 r2 f3 r3
  have z2 := r2.head.lt
  replace f3 := (f1.trans f2).trans f3
  clear f1 f2 r2 r3
  generalize List.replicate (64 * nf) (0 : UInt8) = bs0 at *
  go_wp2_with fail
  go_loopw [10] (fun i wr => ∃ k : Nat, k ≤ len ∧ k ≤ 200 ∧ i = .int .i64 k ∧ Fr none' w wr ∧ ∃ bs, Twin wr w.heap.size (w1.heap.size + 1) w1.heap.size (w2.heap.size + 1) w2.heap.size nf bs) (fun i _ => len - (intOf i).toNat)
  case atStart => exact ⟨0, by omega, by omega, rfl, f3, _, t3⟩
  case round =>
    clear f3 t3
    obtain ⟨k, hk, hk3, rfl, fk, bs, tk⟩ := hrel
    by_cases hlt : k < len
    · have t1 : decide ((k : Int) < (len : Int)) = true := by simp; omega
      by_cases hlt3 : k < 200
      · have t2 : decide ((k : Int) < 200) = true := by simp; omega
        have i1 : 0 ≤ (k : Int) ∧ (k : Int) < (len : Int) := by omega
        obtain ⟨dO, t, j, v, l, r, f, x, hA⟩ := ha.each k hlt
        have hA' := hA.keep fk (fun h => h)
        obtain ⟨e0, e1, e2, e3, e4, e5, e6, e7, ew⟩ := hA'
        clear hA
        go_wp2_with fail
        refine (does_any _ _ _ _ _ _ _ _ tk _ _ _ _ _ _ _ _ ew).mono ?_
        rintro e w4 ⟨bs', rfl, f4, t4⟩
        have f5 := fk.own f4 z1 (by omega)
        clear fk f4 tk e0 e1 e2 e3 e4 e5 e6 e7
        go_wp2_with fail
        go_roundw
        case rel => exact ⟨k + 1, by omega, by omega, by go_num, f5, bs', t4⟩
        case measure => simp [intOf]; omega
      · have t2 : decide ((k : Int) < 200) = false := by simp; omega
        go_wp2_with fail
        go_loopw [12] (fun i wq => ∃ j : Nat, j ≤ nf ∧ i = .int .i64 j ∧ Fr none' w wq ∧ Twin wq w.heap.size (w1.heap.size + 1) w1.heap.size (w2.heap.size + 1) w2.heap.size nf bs) (fun i _ => nf - (intOf i).toNat)
        case atStart => exact ⟨0, by omega, rfl, fk, tk⟩
        case round =>
          clear tk fk
          obtain ⟨j, hj, rfl, fj, tj⟩ := hrel
          by_cases hjl : j < nf
          · have u1 : decide ((j : Int) < (nf : Int)) = true := by simp; omega
            have HL : Hid ((frameOf bs j).length = 64) := length_frameOf bs j nf tj.ram.len hjl
            go_wp2_with fail
            refine (rframes_any _ _ _ _ _ tj.ref).mono ?_
            rintro e w5 ⟨rfl, rfl⟩
            go_wp2_with fail
            refine (frame_ok _ _ _ _ _ _ tj.ram hjl).mono ?_
            rintro e w6 ⟨rfl, f6, x6⟩
            have t6 := tj.keep0 f6
            replace f6 := fj.trans f6
            go_wp2_with fail
            refine (rframe_ok _ _ _ _ _ _ t6.ref hjl).mono ?_
            rintro e w7 ⟨g, cap', rfl, hg, f7, x7⟩
            have y6 := begins_row (x6.keep f7 (fun h => h))
            rw [HL.out] at y6
            have t7 := t6.keep0 f7
            replace f7 := f6.trans f7
            clear f6 t6 x6
            go_wp2_with fail
            refine (same_frame _ _ _ _ _ _ HL y6 x7).mono ?_
            rintro e w8 ⟨rfl, f8⟩
            have t8 := t7.keep0 f8
            replace f8 := f7.trans f8
            clear f7 t7 y6 x7
            go_wp2_with fail
            go_roundw
            case rel => exact ⟨j + 1, by omega, by go_num, f8, t8⟩
            case measure => simp [intOf]; omega
          · obtain rfl : j = nf := by omega
            have u1 : decide ((j : Int) < (j : Int)) = false := by simp
            go_wp2_with fail
            refine (rframes_any _ _ _ _ _ tj.ref).mono ?_
            rintro e w5 ⟨rfl, rfl⟩
            go_wp2_with fail
            go_ret
            exact ⟨rfl, fj⟩
    · have t1 : decide ((k : Int) < (len : Int)) = false := by simp; omega
      go_wp2_with fail
      go_loopw [12] (fun i wq => ∃ j : Nat, j ≤ nf ∧ i = .int .i64 j ∧ Fr none' w wq ∧ Twin wq w.heap.size (w1.heap.size + 1) w1.heap.size (w2.heap.size + 1) w2.heap.size nf bs) (fun i _ => nf - (intOf i).toNat)
      case atStart => exact ⟨0, by omega, rfl, fk, tk⟩
      case round =>
        clear tk fk
        obtain ⟨j, hj, rfl, fj, tj⟩ := hrel
        by_cases hjl : j < nf
        · have u1 : decide ((j : Int) < (nf : Int)) = true := by simp; omega
          have HL : Hid ((frameOf bs j).length = 64) := length_frameOf bs j nf tj.ram.len hjl
          go_wp2_with fail
          refine (rframes_any _ _ _ _ _ tj.ref).mono ?_
          rintro e w5 ⟨rfl, rfl⟩
          go_wp2_with fail
          refine (frame_ok _ _ _ _ _ _ tj.ram hjl).mono ?_
          rintro e w6 ⟨rfl, f6, x6⟩
          have t6 := tj.keep0 f6
          replace f6 := fj.trans f6
          go_wp2_with fail
          refine (rframe_ok _ _ _ _ _ _ t6.ref hjl).mono ?_
          rintro e w7 ⟨g, cap', rfl, hg, f7, x7⟩
          have y6 := begins_row (x6.keep f7 (fun h => h))
          rw [HL.out] at y6
          have t7 := t6.keep0 f7
          replace f7 := f6.trans f7
          clear f6 t6 x6
          go_wp2_with fail
          refine (same_frame _ _ _ _ _ _ HL y6 x7).mono ?_
          rintro e w8 ⟨rfl, f8⟩
          have t8 := t7.keep0 f8
          replace f8 := f7.trans f8
          clear f7 t7 y6 x7
          go_wp2_with fail
          go_roundw
          case rel => exact ⟨j + 1, by omega, by go_num, f8, t8⟩
          case measure => simp [intOf]; omega
        · obtain rfl : j = nf := by omega
          have u1 : decide ((j : Int) < (j : Int)) = false := by simp
          go_wp2_with fail
          refine (rframes_any _ _ _ _ _ tj.ref).mono ?_
          rintro e w5 ⟨rfl, rfl⟩
          go_wp2_with fail
          go_ret
          exact ⟨rfl, fj⟩

set_option maxRecDepth 100000 in
set_option maxHeartbeats 1600000 in
theorem plays_nil (nf cap : Nat) (a0 : Option Addr) (w : World) (hf1 : 1 ≤ nf) (hf2 : nf ≤ 1024) :
    Calls Try.prog 6 #[.int .i64 (nf : Int), .slice a0 0 cap] w fun e w' => e = .returned (.bool true) ∧ Fr none' w w' := by
  go_enter Try.func6, Try.ntmps6
  go_wp2_with fail
  refine (awake_any _).mono ?_
  rintro e w1 ⟨rfl, f1⟩
  have z1 := f1.size
  go_wp2_with fail
  refine (new_nat _ _ hf1 hf2).mono ?_
  rintro e w2 ⟨rfl, f2, r2⟩
  go_wp2_with fail
  refine (rnew_nat _ _ hf1 hf2).mono ?_
  rintro e w3 ⟨rfl, f3, r3⟩
  have t3 := twin_new (B := w.heap.size) z1 r2 f3 r3
  have z2 := r2.head.lt
  replace f3 := (f1.trans f2).trans f3
  clear f1 f2 r2 r3
  generalize List.replicate (64 * nf) (0 : UInt8) = bs at *
  go_wp2_with fail
  refine wp_loop_rounds 1 ?_
  rw [rounds_succ]
  have tk := t3
  have fk := f3
  clear t3 f3
  go_wp2_with fail
  go_loopw [12] (fun i wq => ∃ j : Nat, j ≤ nf ∧ i = .int .i64 j ∧ Fr none' w wq ∧ Twin wq w.heap.size (w1.heap.size + 1) w1.heap.size (w2.heap.size + 1) w2.heap.size nf bs) (fun i _ => nf - (intOf i).toNat)
  case atStart => exact ⟨0, by omega, rfl, fk, tk⟩
  case round =>
    clear tk fk
    obtain ⟨j, hj, rfl, fj, tj⟩ := hrel
    by_cases hjl : j < nf
    · have u1 : decide ((j : Int) < (nf : Int)) = true := by simp; omega
      have HL : Hid ((frameOf bs j).length = 64) := length_frameOf bs j nf tj.ram.len hjl
      go_wp2_with fail
      refine (rframes_any _ _ _ _ _ tj.ref).mono ?_
      rintro e w5 ⟨rfl, rfl⟩
      go_wp2_with fail
      refine (frame_ok _ _ _ _ _ _ tj.ram hjl).mono ?_
      rintro e w6 ⟨rfl, f6, x6⟩
      have t6 := tj.keep0 f6
      replace f6 := fj.trans f6
      go_wp2_with fail
      refine (rframe_ok _ _ _ _ _ _ t6.ref hjl).mono ?_
      rintro e w7 ⟨g, cap', rfl, hg, f7, x7⟩
      have y6 := begins_row (x6.keep f7 (fun h => h))
      rw [HL.out] at y6
      have t7 := t6.keep0 f7
      replace f7 := f6.trans f7
      clear f6 t6 x6
      go_wp2_with fail
      refine (same_frame _ _ _ _ _ _ HL y6 x7).mono ?_
      rintro e w8 ⟨rfl, f8⟩
      have t8 := t7.keep0 f8
      replace f8 := f7.trans f8
      clear f7 t7 y6 x7
      go_wp2_with fail
      go_roundw
      case rel => exact ⟨j + 1, by omega, by go_num, f8, t8⟩
      case measure => simp [intOf]; omega
    · obtain rfl : j = nf := by omega
      have u1 : decide ((j : Int) < (j : Int)) = false := by simp
      go_wp2_with fail
      refine (rframes_any _ _ _ _ _ tj.ref).mono ?_
      rintro e w5 ⟨rfl, rfl⟩
      go_wp2_with fail
      go_ret
      exact ⟨rfl, fj⟩

theorem plays_any (f : Int) (a0 : Option Addr) (len cap : Nat) (w : World) (hl : len ≤ 9223372036854775807) (ha : len = 0 ∨ ∃ b o, a0 = some ⟨b, o, none⟩ ∧ Acts w w.heap.size b o len) :
    Calls Try.prog 6 #[.int .i64 f, .slice a0 len cap] w fun e w' => e = .returned (.bool true) ∧ Below w.heap.size w w' := by
  have key : Calls Try.prog 6 #[.int .i64 f, .slice a0 len cap] w fun e w' => e = .returned (.bool true) ∧ Fr none' w w' := by
    by_cases hf : 1 ≤ f ∧ f ≤ 1024
    · obtain ⟨nf, rfl⟩ := Int.eq_ofNat_of_zero_le (show 0 ≤ f by omega)
      rcases ha with rfl | ⟨b, o, rfl, ha⟩
      · exact plays_nil nf cap a0 w (by omega) (by omega)
      · exact plays_row nf b o len cap w (by omega) (by omega) hl ha
    · exact plays_none f a0 len cap w hf
  exact key.mono fun e w' ⟨he, hf⟩ => ⟨he, hf.below (Nat.le_refl _) (fun k h => h.elim)⟩

end Go.Proofs.Ytefjincghkdeiaa
