/-
  The walk of IpcBits. No statement is proved here.
-/
import Derived.Test.YtcdckkhfkkjbmaaIpAwake
import Derived.Test.YtcdckkhfkkjbmaaIpBitQ
import Derived.Test.YtcdckkhfkkjbmaaIpOpen
import Derived.Deep.CutBlock
import Derived.Deep.CutRange
namespace Go.Proofs.Ytcdckkhfkkjbmaa
open Go.RowKit Go.Maps Go.WideMaps

theorem bel_of {w w' : World} (f : Fr none' w w') : Below w.heap.size w w' := f.below (Nat.le_refl _) (fun _ h => h.elim)

set_option maxRecDepth 100000 in
set_option maxHeartbeats 4000000 in
theorem bits_any (a0 : Option Addr) (len cap : Nat) (n t : Int) (W : World) (hl : len ≤ 9223372036854775807) (hA : ∃ A, Nums W a0 len A) :
    Calls Try.prog 7 #[.slice a0 len cap, .int .i64 n, .int .i64 t] W fun e W' => e = .returned (.bool true) ∧ Below W.heap.size W W' := by
  obtain ⟨A, hA⟩ := hA
  have HA : Hid (Nums W a0 len A) := hA
  clear hA
  have lok : (len : Int) ≤ 9223372036854775807 := by omega
  by_cases hb : numB n = true ∧ numB t = true
  case neg =>
    have HB : Hid (n < 0 ∨ 1023 < n ∨ t < 0 ∨ 1023 < t) := by
      show n < 0 ∨ 1023 < n ∨ t < 0 ∨ 1023 < t
      simp only [num_iff] at hb
      omega
    clear hb
    go_enter Try.func7, Try.ntmps7
    go_wp2_with fail
    refine (awake_any W).mono ?_
    rintro e w1 ⟨rfl, F0⟩
    go_wp2_with fail
    refine (xnew w1).mono ?_
    rintro e w2 ⟨b, rfl, P⟩
    have HF : Hid (Fr none' W w2) := F0.trans P.old
    clear F0 P HA
    by_cases h1 : n < 0
    · have d1 : decide (n < 0) = true := decide_eq_true h1
      go_wp2_with fail
      go_ret
      exact ⟨rfl, bel_of HF.out⟩
    · have d1 : decide (n < 0) = false := decide_eq_false h1
      by_cases h2 : 1023 < n
      · have d2 : decide (1023 < n) = true := decide_eq_true h2
        go_wp2_with fail
        go_ret
        exact ⟨rfl, bel_of HF.out⟩
      · have d2 : decide (1023 < n) = false := decide_eq_false h2
        by_cases h3 : t < 0
        · have d3 : decide (t < 0) = true := decide_eq_true h3
          go_wp2_with fail
          go_ret
          exact ⟨rfl, bel_of HF.out⟩
        · have d3 : decide (t < 0) = false := decide_eq_false h3
          have h4 : 1023 < t := by have := HB.out; omega
          have d4 : decide (1023 < t) = true := decide_eq_true h4
          go_wp2_with fail
          go_ret
          exact ⟨rfl, bel_of HF.out⟩
  case pos =>
    obtain ⟨hn, ht⟩ := hb
    have hn' := num_iff.1 hn
    have ht' := num_iff.1 ht
    have d1 : decide (n < 0) = false := decide_eq_false (by omega)
    have d2 : decide (1023 < n) = false := decide_eq_false (by omega)
    have d3 : decide (t < 0) = false := decide_eq_false (by omega)
    have d4 : decide (1023 < t) = false := decide_eq_false (by omega)
    have ht64 : I64 t := num64 ht
    go_enter Try.func7, Try.ntmps7
    go_wp2_with fail
    refine (awake_any W).mono ?_
    rintro e w1 ⟨rfl, F0⟩
    go_wp2_with fail
    refine (xnew w1).mono ?_
    rintro e w2 ⟨b, rfl, P⟩
    have HF : Hid (Fr none' W w1) := F0
    rw [bit_0 n] at P
    have HP : Hid (∃ x : Option Int, x.getD 0 = 0 ∧ x.isSome = false ∧ Ix w1 w2 b (bitS n x) (fun _ => False)) := ⟨none, rfl, rfl, P⟩
    clear F0 P hn' ht'
    go_upto_block 0 with fail
    go_cut [9, 10, 11] from 45 to 92 (fun v s i wc => ∃ (y : Int) (sb : Bool), v = .int .i64 y ∧ s = .bool sb ∧ Hid (∃ x : Option Int, x.getD 0 = y ∧ x.isSome = sb ∧ Ix w1 wc b (bitS n x) (fun _ => False)))
    case first =>
      go_wp2_with fail
      go_loopw [9, 10, 11] (fun v s i wr => ∃ (y : Int) (sb : Bool) (k : Nat), k ≤ len ∧ k ≤ 50 ∧ v = .int .i64 y ∧ s = .bool sb ∧ i = .int .i64 (k : Int) ∧ Hid (∃ x : Option Int, x.getD 0 = y ∧ x.isSome = sb ∧ Ix w1 wr b (bitS n x) (fun _ => False))) (fun _ _ i _ => 50 - (intOf i).toNat)
      case atStart => exact ⟨0, false, 0, by omega, by omega, rfl, rfl, rfl, HP⟩
      case round =>
        obtain ⟨y, sb, k, hk1, hk2, rfl, rfl, rfl, HI⟩ := hrel
        clear HP
        by_cases hlt : k < len
        · by_cases hlt2 : k < 50
          · obtain ⟨x, hx1, hx2, P⟩ := HI.out
            obtain ⟨g, o, rfl, ak, okx⟩ := (HA.out.keep' (HF.out.trans P.old)) k hlt
            have c0 := ak 0 (by omega)
            simp only [Nat.mul_one, Nat.add_zero, inL, List.getElem?_cons_zero] at c0
            have i1 : 0 ≤ (k : Int) ∧ (k : Int) < (len : Int) := by omega
            have uk1 : decide ((k : Int) < (len : Int)) = true := decide_eq_true (by omega)
            have uk2 : decide ((k : Int) < 50) = true := decide_eq_true (by omega)
            have k50 : (k : Int) ≤ 50 := by omega
            have HG : Hid (¬ (w1.heap.size ≤ g ∧ ¬ False)) := by
              obtain ⟨g', o', e', ak', _⟩ := HA.out k hlt
              cases e'
              have := ak' 0 (by omega)
              simp only [Nat.mul_one, Nat.add_zero, inL, List.getElem?_cons_zero] at this
              have h1 := cell_lt this
              have h2 := HF.out.size
              intro h
              have h3 : g < W.heap.size := h1
              omega
            clear ak
            generalize A k = bd at *
            cases hm : mrkB bd with
            | true =>
              obtain ⟨e1, e2, e3⟩ := bit_sig (x := x) hn hm
              have hm' : 0 ≤ bd ∧ bd < 1048576 := by simpa [mrkB] using hm
              have m1 : decide (0 ≤ bd) = true := decide_eq_true hm'.1
              have m2 : decide (bd < 1048576) = true := decide_eq_true hm'.2
              have HC : Hid (∀ w3, Ix w1 w3 b (bitS n (some (bits .or .i64 (x.getD 0) bd))) (fun _ => False) → ∃ x' : Option Int, x'.getD 0 = bits .or .i64 y bd ∧ x'.isSome = true ∧ Ix w1 w3 b (bitS n x') (fun _ => False)) := fun w3 Q => ⟨_, by rw [← hx1]; rfl, rfl, Q⟩
              have HS : Hid (Calls Try.prog 23 #[pv b, .int .i64 n, .int .i64 bd] wr fun e w' => e = .returned (.tuple #[.int .i64 (-1), .int .i64 0]) ∧ Ix w1 w' b (bitS n (some (bits .or .i64 (x.getD 0) bd))) (fun _ => False) ∧ FrO w1 (fun _ => False) wr w') := by
                have := xsignal P n bd
                rw [e1, e2, e3] at this
                exact this
              clear e1 e2 e3 hm hm' hx1 hx2 P HI
              go_wp2_with (go_at_call 23; refine (Calls.mono HS.out ?_); rintro e w3 ⟨rfl, Q, f⟩; have c1 := cell_keep f c0 HG.out)
              go_roundw
              case rel => exact ⟨_, true, k + 1, by omega, by omega, rfl, rfl, by go_num, HC.out w3 Q⟩
              case measure => simp [intOf]; omega
            | false =>
              obtain ⟨e1, e2, e3⟩ := bit_bad (n := n) (x := x) hm
              have HC : Hid (∀ w3, Ix w1 w3 b (bitS n x) (fun _ => False) → ∃ x' : Option Int, x'.getD 0 = y ∧ x'.isSome = sb ∧ Ix w1 w3 b (bitS n x') (fun _ => False)) := fun w3 Q => ⟨x, hx1, hx2, Q⟩
              have HS : Hid (Calls Try.prog 23 #[pv b, .int .i64 n, .int .i64 bd] wr fun e w' => e = .returned (.tuple #[.int .i64 (-1), .int .i64 1]) ∧ Ix w1 w' b (bitS n x) (fun _ => False) ∧ FrO w1 (fun _ => False) wr w') := by
                have := xsignal P n bd
                rw [e1, e2, e3] at this
                exact this
              by_cases hm1 : 0 ≤ bd
              · have m1 : decide (0 ≤ bd) = true := decide_eq_true hm1
                have m2 : decide (bd < 1048576) = false := by simpa [mrkB, hm1] using hm
                clear e1 e2 e3 hm hx1 hx2 P HI
                go_wp2_with (go_at_call 23; refine (Calls.mono HS.out ?_); rintro e w3 ⟨rfl, Q, f⟩; have c1 := cell_keep f c0 HG.out)
                go_roundw
                case rel => exact ⟨_, sb, k + 1, by omega, by omega, rfl, rfl, by go_num, HC.out w3 Q⟩
                case measure => simp [intOf]; omega
              · have m1 : decide (0 ≤ bd) = false := decide_eq_false hm1
                clear e1 e2 e3 hm hx1 hx2 P HI
                go_wp2_with (go_at_call 23; refine (Calls.mono HS.out ?_); rintro e w3 ⟨rfl, Q, f⟩; have c1 := cell_keep f c0 HG.out)
                go_roundw
                case rel => exact ⟨_, sb, k + 1, by omega, by omega, rfl, rfl, by go_num, HC.out w3 Q⟩
                case measure => simp [intOf]; omega
          · have uk1 : decide ((k : Int) < (len : Int)) = true := decide_eq_true (by omega)
            have uk2 : decide ((k : Int) < 50) = false := decide_eq_false (by omega)
            go_wp2_with fail
            go_meet
            exact ⟨_, _, rfl, rfl, HI⟩
        · have uk1 : decide ((k : Int) < (len : Int)) = false := decide_eq_false (by omega)
          go_wp2_with fail
          go_meet
          exact ⟨_, _, rfl, rfl, HI⟩
    case rest =>
      obtain ⟨y, sb, rfl, rfl, HI⟩ := hcut
      obtain ⟨x, hx1, hx2, P⟩ := HI.out
      obtain ⟨e1, e2, e3, e4, e5, e6⟩ := bit_wait (x := x) hn ht
      rw [hx1] at e3
      rw [hx2] at e2 e4
      have hE : ∀ w, (binOp .eql 36 (.agg #[.int .i64 0, .int .i64 y, .int .i64 0, .int .u32 0, .int .u32 0, .int .u32 0, .int .u32 0]) (.agg #[.int .i64 0, .int .i64 y, .int .i64 0, .int .u32 0, .int .u32 0, .int .u32 0, .int .u32 0])).run Try.prog w = .ok (.bool true) w := fun w => by
        have := eql_ms (badM y) (badM y) w
        rw [eqM_iff.2 rfl] at this
        exact this
      have hs : (sb == sb) = true := by cases sb <;> rfl
      have X1 := xwait P n t false ht64
      rw [e1, e2] at X1
      clear HP HI hx1 hx2 HA
      go_wp2_with fail
      refine X1.mono ?_
      rintro e w3 ⟨rfl, Q, _⟩
      have X2 := xinbox Q t ht64
      rw [e3, e4] at X2
      go_wp2_with fail
      refine X2.mono ?_
      rintro e w4 ⟨rfl, Q4, _⟩
      have rb := row_alloc w4 (msA (badM y)) 36
      have P4 : Ix w1 (w4.alloc (.cells (msA (badM y)) 36)) b (inbS (watS (bitS n x) n t false) t) (at' w4.heap.size) := Q4.more ((Fr.refl none' _).alloc _) (fun j hj => by have hj' : j = w4.heap.size := hj; exact ⟨Or.inr (by omega), by rw [World.size_alloc]; omega⟩)
      have X3 := xwait P4 n t false ht64
      rw [e5, e6] at X3
      clear Q Q4 X1 X2 e1 e2 e3 e4 e5 e6 P
      dsimp only [msA, badM] at rb P4 X3
      go_wp2_with fail
      refine X3.mono ?_
      clear X3
      rintro e w5 ⟨rfl, Q5, f⟩
      have rb5 := Row.keep rb f (fun h => h.2 rfl)
      have c0 := rb5.cell 0
      have c1 := rb5.cell 1
      have c2 := rb5.cell 2
      have c3 := rb5.cell 3
      have c4 := rb5.cell 4
      have c5 := rb5.cell 5
      have c6 := rb5.cell 6
      dsimp at c0 c1 c2 c3 c4 c5 c6
      have HZ : Hid (Fr none' W w5) := HF.out.trans Q5.old
      clear rb rb5 f Q5 P4
      go_wp2_with fail
      go_ret
      exact ⟨rfl, bel_of HZ.out⟩

end Go.Proofs.Ytcdckkhfkkjbmaa
