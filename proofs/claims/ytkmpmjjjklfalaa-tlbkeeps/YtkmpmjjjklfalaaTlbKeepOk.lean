/-
  TlbKeeps over the translation, where a line is filled: whatever acts came in, the law returns true, and nothing old turns. No statement is proved here.
-/
import Derived.Test.YtkmpmjjjklfalaaTlbActs
namespace Go.Proofs.Ytkmpmjjjklfalaa
open Go.RowKit

theorem key_self (x : Ln) : key x ⟨x.v, x.a, x.p, 0, 0⟩ = true := key_iff.mpr ⟨rfl, rfl, rfl⟩

theorem idx_filled (T : Nat → Ln) {k : Nat} (hk : k < 8) {x : Ln} (hx : rightL x = true) : idx (filled T k x) x.v x.a x.p 8 = k := by
  refine idx_at (fun j hj => ?_) ?_ 8 hk
  · rw [filled, upd_other _ _ (by omega)]
    cases he : emp (wipe (fun l => key l x) T j) with
    | true => simp [hit, he]
    | false =>
      have := (wiped_key he).1
      have h2 : key (wipe (fun l => key l x) T j) ⟨x.v, x.a, x.p, 0, 0⟩ = false := this
      simp [hit, h2]
  · rw [filled, upd_same]
    simp [hit, right_emp hx, key_self]

theorem n_lt0 (k : Nat) : decide ((k : Int) < 0) = false := decide_eq_false (by omega)
theorem ansF_filled (T : Nat → Ln) (k : Nat) (x : Ln) : ansF (filled T k x) k = x.f := by rw [ansF, n_lt0, cond_false, Int.toNat_natCast, filled, upd_same]
theorem ansR_filled (T : Nat → Ln) (k : Nat) (x : Ln) : ansR (filled T k x) k = x.r := by rw [ansR, n_lt0, cond_false, Int.toNat_natCast, filled, upd_same]
theorem ansB_nat (k : Nat) : ansB k = true := by rw [ansB, n_lt0]; rfl

theorem kept {T : Nat → Ln} {k j : Nat} {x : Ln} (hjk : j ≠ k) (hky : key (T j) x = false) : filled T k x j = T j := by
  rw [filled, upd_other _ _ hjk]
  have hg : goes (fun l => key l x) (T j) = false := by simp [goes, hky]
  simp [wipe, hg]

/-- An entry's own page is found in it. -/
theorem idx_own {T : Nat → Ln} (hU : Uniq T) {j : Nat} {y : Ln} (hj : j < 8) (he : emp (T j) = false) (hk : key (T j) ⟨y.v, y.a, y.p, 0, 0⟩ = true) : idx T y.v y.a y.p 8 = j := by
  have hh : hit y.v y.a y.p (T j) = true := by simp [hit, he, hk]
  rcases idx_cases T y.v y.a y.p 8 with ⟨_, hn⟩ | ⟨i, hi, e, h1, _⟩
  · rw [hn j hj] at hh; exact absurd hh (by decide)
  · have h1' : emp (T i) = false ∧ key (T i) ⟨y.v, y.a, y.p, 0, 0⟩ = true := by simpa [hit] using h1
    have b1 := key_iff.mp h1'.2
    have b2 := key_iff.mp hk
    rw [e, hU i j hi hj h1'.1 he (key_iff.mpr ⟨b1.1.trans b2.1.symm, b1.2.1.trans b2.2.1.symm, b1.2.2.trans b2.2.2.symm⟩)]

set_option maxRecDepth 100000 in
set_option maxHeartbeats 16000000 in
theorem keeps_ok (a0 : Option Addr) (len cap kk : Nat) (x : Ln) (w : World) (hl : len ≤ 9223372036854775807) (ha : Acts w a0 len) (hk : kk < 8) (hx : rightL x = true) :
    Calls Try.prog 7 #[.slice a0 len cap, .int .i64 (kk : Int), .agg #[.int .i64 x.v, .int .i64 x.a, .int .i64 x.p, .int .i64 x.f, .int .i64 x.r]] w fun e w' => e = .returned (.bool true) ∧ Fr none' w w' := by
  have hi : inB (kk : Int) 0 7 = true := inB_iff.mpr (by omega)
  have hE : fillE kk x = 0 := by simp [fillE, hi, hx]
  have hT : ∀ T, fillT T kk x = filled T kk x := fun T => by simp [fillT, hi, hx]
  clear hi
  have HA : Hid (Acts w a0 len) := ha
  clear ha
  have r0 := row_alloc w #[.int .i64 x.v, .int .i64 x.a, .int .i64 x.p, .int .i64 x.f, .int .i64 x.r] 28
  have fw := (Fr.refl none' w).alloc (.cells #[.int .i64 x.v, .int .i64 x.a, .int .i64 x.p, .int .i64 x.f, .int .i64 x.r] 28)
  have hne := neq_line
  go_enter Try.func7, Try.ntmps7
  go_wp2_with fail
  obtain ⟨w0, hw0⟩ : ∃ w0, w0 = w.alloc (.cells #[.int .i64 x.v, .int .i64 x.a, .int .i64 x.p, .int .i64 x.f, .int .i64 x.r] 28) := ⟨_, rfl⟩
  rw [← hw0] at r0 fw ⊢
  replace HA : Hid (Acts w0 a0 len) := fun k hk => by
    obtain ⟨b, o, d, i', x', vm, sp, pg, e, h⟩ := HA.out k hk
    exact ⟨b, o, d, i', x', vm, sp, pg, e, h.keep fw (fun h => h)⟩
  have hsz : w0.heap.size = w.heap.size + 1 := by rw [hw0]; simp
  clear hw0
  refine (awake_any _).mono ?_
  rintro e w1 ⟨rfl, f1⟩
  go_wp2_with fail
  refine (new_any _).mono ?_
  rintro e w2 ⟨bt, rfl, hb, f2, t2⟩
  replace f2 := f1.trans f2
  replace hb := Nat.le_trans f1.size hb
  have p2 := pair_new f2 hb t2 (.cells (Array.replicate 42 (.int .i64 0)) 31) rfl
  replace f2 := f2.alloc (.cells (Array.replicate 42 (.int .i64 0)) 31)
  clear f1 t2
  go_wp2_with fail
  go_loopw [10] (fun i wr => ∃ (k : Nat) (T : Nat → Ln) (fo mi : Int), k ≤ len ∧ k ≤ 100 ∧ i = .int .i64 k ∧ Fr none' w0 wr ∧ Pair wr w0.heap.size bt w2.heap.size T fo mi ∧ fo + mi ≤ k) (fun i _ => 100 - (intOf i).toNat)
  case atStart => exact ⟨0, fun _ => zl, 0, 0, by omega, by omega, rfl, f2, p2, by omega⟩
  case round =>
    clear f2 p2
    obtain ⟨k, T, fo, mi, hk1, hk2, rfl, fk, pk, hs⟩ := hrel
    by_cases hkl : k < len
    · by_cases hk3 : k < 100
      · obtain ⟨b, o, d, ia, xa, vm, sp, pg, rfl, hact⟩ := HA.out k hkl
        obtain ⟨c0, c1, c2, c3, c4, c5, c6, c7, c8, c9⟩ := hact.keep fk (fun h => h)
        have i1 : 0 ≤ (k : Int) ∧ (k : Int) < (len : Int) := by omega
        have u1 : decide ((k : Int) < (len : Int)) = true := decide_eq_true (by omega)
        have u2 : decide ((k : Int) < 100) = true := decide_eq_true (by omega)
        go_wp2_with fail
        refine (does_any _ _ _ _ _ _ _ pk (by omega) d ia xa vm sp pg).mono ?_
        rintro e w5 ⟨rfl, f5, p5⟩
        replace f5 := fk.pair f5 pk.new1 pk.new2
        have hsb := step_bounds d vm sp pg T
        clear c0 c1 c2 c3 c4 c5 c6 c7 c8 c9 hact fk pk
        go_wp2_with fail
        go_roundw
        case rel => exact ⟨k + 1, stepT d ia xa vm sp pg T, fo + stepF d vm sp pg T, mi + stepM d vm sp pg T, by omega, by omega, by go_num, f5, p5, by omega⟩
        case measure => simp [intOf]; omega
      · have u1 : decide ((k : Int) < (len : Int)) = true := decide_eq_true (by omega)
        have u2 : decide ((k : Int) < 100) = false := decide_eq_false (by omega)
        have tk := pk.tlb
        have gk := pk.good
        have uk := pk.uniq
        have hbt := pk.new1
        have q1 := pk.fo0
        have q2 := pk.mi0
        clear pk
        obtain ⟨w4, rfl⟩ : ∃ w4, w4 = wr := ⟨wr, rfl⟩
        go_wp2_with fail
        refine (lines_any _ _ _ _ _ tk).mono ?_
        rintro e w5 ⟨g1, rfl, hg1, f5, x1⟩
        have hlt5 := tk.lt
        have ng1 : g1 ≠ bt := by omega
        have nb0 : w.heap.size ≠ bt := by omega
        replace tk := tk.keep f5 (fun h => h)
        replace fk := fk.trans f5
        have rk := r0.keep fk (fun h => h)
        obtain ⟨c0, c1, c2, c3, c4⟩ := row5 rk
        clear f5 hlt5
        go_wp2_with fail
        refine (fill_any _ _ _ _ _ tk (kk : Int) x).mono ?_
        rintro e w6 ⟨rfl, f6, t6⟩
        replace x1 := x1.keep f6 ng1
        replace rk := rk.keep f6 nb0
        replace fk := fk.lone f6 hbt
        clear f6 tk c0 c1 c2 c3 c4
        rw [hT] at t6
        obtain ⟨c0, c1, c2, c3, c4⟩ := row5 rk
        rw [hE]
        go_wp2_with fail
        refine (find_any _ _ _ _ _ x.v x.a x.p t6 (by omega) (by omega)).mono ?_
        rintro e w7 ⟨rfl, f7, t7⟩
        rw [idx_filled T hk hx] at t7
        have hmb := more_bounds (kk : Int)
        rw [idx_filled T hk hx, ansF_filled T kk x, ansR_filled T kk x, ansB_nat kk]
        replace x1 := x1.keep f7 ng1
        replace rk := rk.keep f7 nb0
        replace fk := fk.lone f7 hbt
        clear f7 t6 c0 c1 c2 c3 c4
        go_wp2_with fail
        go_loopw [18] (fun i wr => ∃ (j : Nat) (fo' mi' : Int), j ≤ 8 ∧ i = .int .i64 j ∧ Fr none' w0 wr ∧ LineRow wr g1 8 8 T ∧ Row wr w.heap.size #[.int .i64 x.v, .int .i64 x.a, .int .i64 x.p, .int .i64 x.f, .int .i64 x.r] 28 ∧ IsTlb wr bt (filled T kk x) fo' mi' ∧ 0 ≤ fo' ∧ 0 ≤ mi' ∧ fo' + mi' ≤ 200 + j) (fun i _ => 8 - (intOf i).toNat)
        case atStart => exact ⟨0, _, _, by omega, rfl, fk, x1, rk, t7, by omega, by omega, by omega⟩
        case round =>
          clear fk x1 rk t7
          obtain ⟨j, fo', mi', hj, rfl, fj, xj, rj, tj, hq1, hq2, hq3⟩ := hrel
          by_cases hjl : j < 8
          · have y1 : 0 ≤ (j : Int) ∧ (j : Int) < 8 := by omega
            have y2 : decide ((j : Int) < 8) = true := decide_eq_true (by omega)
            have nwb : wr.heap.size ≠ bt := Nat.ne_of_gt tj.lt
            have nwx : w.heap.size ≠ wr.heap.size := Nat.ne_of_lt rj.lt
            obtain ⟨c0, c1, c2, c3, c4⟩ := xj.cells j hjl
            have x4 := xj.alloc (.cells #[.int .i64 (T j).v, .int .i64 (T j).a, .int .i64 (T j).p, .int .i64 (T j).f, .int .i64 (T j).r] 28)
            have r4 := rj.alloc (.cells #[.int .i64 (T j).v, .int .i64 (T j).a, .int .i64 (T j).p, .int .i64 (T j).f, .int .i64 (T j).r] 28)
            have t4 := tj.alloc (.cells #[.int .i64 (T j).v, .int .i64 (T j).a, .int .i64 (T j).p, .int .i64 (T j).f, .int .i64 (T j).r] 28)
            have f4 := fj.alloc (.cells #[.int .i64 (T j).v, .int .i64 (T j).a, .int .i64 (T j).p, .int .i64 (T j).f, .int .i64 (T j).r] 28)
            have rb := row_alloc wr #[.int .i64 (T j).v, .int .i64 (T j).a, .int .i64 (T j).p, .int .i64 (T j).f, .int .i64 (T j).r] 28
            obtain ⟨a0', a1', a2', a3', a4'⟩ := row5 r4
            clear xj rj tj fj
            cases t1 : ((T j).v == x.v) with
            | false =>
              go_wp2_with fail
              refine (find_any _ _ _ _ _ (T j).v (T j).a (T j).p t4 (by omega) (by omega)).mono ?_
              rintro e w7 ⟨rfl, f7, t7⟩
              have hmb := more_bounds (idx (filled T kk x) (T j).v (T j).a (T j).p 8)
              have x5 := x4.keep f7 ng1
              have r5 := r4.keep f7 nb0
              have rb5 := rb.keep f7 nwb
              replace f7 := f4.lone f7 hbt
              obtain ⟨d0, d1, d2, d3, d4⟩ := row5 rb5
              clear x4 r4 t4 f4 rb
              cases he : emp (T j) with
              | true =>
                have t0 : ((T j).v == 0 && ((T j).a == 0 && ((T j).p == 0 && ((T j).f == 0 && (T j).r == 0)))) = true := he
                go_wp2_with fail
                go_roundw
                case rel => exact ⟨j + 1, fo' + moreF (idx (filled T kk x) (T j).v (T j).a (T j).p 8), mi' + moreM (idx (filled T kk x) (T j).v (T j).a (T j).p 8), by omega, by go_num, f7, x5, r5, t7, by omega, by omega, by omega⟩
                case measure => simp [intOf]; omega
              | false =>
                have t0 : ((T j).v == 0 && ((T j).a == 0 && ((T j).p == 0 && ((T j).f == 0 && (T j).r == 0)))) = false := he
                by_cases hjk : j = kk
                · have m1 : ((j : Int) != (kk : Int)) = false := by simp; omega
                  clear hjk
                  go_wp2_with fail
                  go_roundw
                  case rel => exact ⟨j + 1, fo' + moreF (idx (filled T kk x) (T j).v (T j).a (T j).p 8), mi' + moreM (idx (filled T kk x) (T j).v (T j).a (T j).p 8), by omega, by go_num, f7, x5, r5, t7, by omega, by omega, by omega⟩
                  case measure => simp [intOf]; omega
                · have m1 : ((j : Int) != (kk : Int)) = true := by simp; omega
                  have hky : key (T j) x = false := by simp [key, t1]
                  have hsame : filled T kk x j = T j := kept hjk hky
                  have hix : (idx (filled T kk x) (T j).v (T j).a (T j).p 8) = j := idx_own (uniq_filled uk kk x) hjl (by rw [hsame]; exact he) (by rw [hsame]; exact key_self _)
                  have n0 : decide ((j : Int) < 0) = false := decide_eq_false (by omega)
                  have v1 : ansF (filled T kk x) j = (T j).f := by rw [ansF, n0, cond_false, Int.toNat_natCast, hsame]
                  have v2 : ansR (filled T kk x) j = (T j).r := by rw [ansR, n0, cond_false, Int.toNat_natCast, hsame]
                  have v3 : ansB j = true := by rw [ansB, n0]; rfl
                  have m2 : ((T j).f != (T j).f) = false := by simp
                  have m3 : ((T j).r != (T j).r) = false := by simp
                  rw [hix] at t7 hmb
                  rw [hix, v1, v2, v3]
                  clear hix v1 v2 v3 hsame hky n0
                  go_wp2_with fail
                  go_roundw
                  case rel => exact ⟨j + 1, fo' + moreF j, mi' + moreM j, by omega, by go_num, f7, x5, r5, t7, by omega, by omega, by omega⟩
                  case measure => simp [intOf]; omega
            | true =>
            cases t2 : ((T j).a == x.a) with
            | false =>
              go_wp2_with fail
              refine (find_any _ _ _ _ _ (T j).v (T j).a (T j).p t4 (by omega) (by omega)).mono ?_
              rintro e w7 ⟨rfl, f7, t7⟩
              have hmb := more_bounds (idx (filled T kk x) (T j).v (T j).a (T j).p 8)
              have x5 := x4.keep f7 ng1
              have r5 := r4.keep f7 nb0
              have rb5 := rb.keep f7 nwb
              replace f7 := f4.lone f7 hbt
              obtain ⟨d0, d1, d2, d3, d4⟩ := row5 rb5
              clear x4 r4 t4 f4 rb
              cases he : emp (T j) with
              | true =>
                have t0 : ((T j).v == 0 && ((T j).a == 0 && ((T j).p == 0 && ((T j).f == 0 && (T j).r == 0)))) = true := he
                go_wp2_with fail
                go_roundw
                case rel => exact ⟨j + 1, fo' + moreF (idx (filled T kk x) (T j).v (T j).a (T j).p 8), mi' + moreM (idx (filled T kk x) (T j).v (T j).a (T j).p 8), by omega, by go_num, f7, x5, r5, t7, by omega, by omega, by omega⟩
                case measure => simp [intOf]; omega
              | false =>
                have t0 : ((T j).v == 0 && ((T j).a == 0 && ((T j).p == 0 && ((T j).f == 0 && (T j).r == 0)))) = false := he
                by_cases hjk : j = kk
                · have m1 : ((j : Int) != (kk : Int)) = false := by simp; omega
                  clear hjk
                  go_wp2_with fail
                  go_roundw
                  case rel => exact ⟨j + 1, fo' + moreF (idx (filled T kk x) (T j).v (T j).a (T j).p 8), mi' + moreM (idx (filled T kk x) (T j).v (T j).a (T j).p 8), by omega, by go_num, f7, x5, r5, t7, by omega, by omega, by omega⟩
                  case measure => simp [intOf]; omega
                · have m1 : ((j : Int) != (kk : Int)) = true := by simp; omega
                  have hky : key (T j) x = false := by simp [key, t2]
                  have hsame : filled T kk x j = T j := kept hjk hky
                  have hix : (idx (filled T kk x) (T j).v (T j).a (T j).p 8) = j := idx_own (uniq_filled uk kk x) hjl (by rw [hsame]; exact he) (by rw [hsame]; exact key_self _)
                  have n0 : decide ((j : Int) < 0) = false := decide_eq_false (by omega)
                  have v1 : ansF (filled T kk x) j = (T j).f := by rw [ansF, n0, cond_false, Int.toNat_natCast, hsame]
                  have v2 : ansR (filled T kk x) j = (T j).r := by rw [ansR, n0, cond_false, Int.toNat_natCast, hsame]
                  have v3 : ansB j = true := by rw [ansB, n0]; rfl
                  have m2 : ((T j).f != (T j).f) = false := by simp
                  have m3 : ((T j).r != (T j).r) = false := by simp
                  rw [hix] at t7 hmb
                  rw [hix, v1, v2, v3]
                  clear hix v1 v2 v3 hsame hky n0
                  go_wp2_with fail
                  go_roundw
                  case rel => exact ⟨j + 1, fo' + moreF j, mi' + moreM j, by omega, by go_num, f7, x5, r5, t7, by omega, by omega, by omega⟩
                  case measure => simp [intOf]; omega
            | true =>
            cases t3 : ((T j).p == x.p) with
            | false =>
              go_wp2_with fail
              refine (find_any _ _ _ _ _ (T j).v (T j).a (T j).p t4 (by omega) (by omega)).mono ?_
              rintro e w7 ⟨rfl, f7, t7⟩
              have hmb := more_bounds (idx (filled T kk x) (T j).v (T j).a (T j).p 8)
              have x5 := x4.keep f7 ng1
              have r5 := r4.keep f7 nb0
              have rb5 := rb.keep f7 nwb
              replace f7 := f4.lone f7 hbt
              obtain ⟨d0, d1, d2, d3, d4⟩ := row5 rb5
              clear x4 r4 t4 f4 rb
              cases he : emp (T j) with
              | true =>
                have t0 : ((T j).v == 0 && ((T j).a == 0 && ((T j).p == 0 && ((T j).f == 0 && (T j).r == 0)))) = true := he
                go_wp2_with fail
                go_roundw
                case rel => exact ⟨j + 1, fo' + moreF (idx (filled T kk x) (T j).v (T j).a (T j).p 8), mi' + moreM (idx (filled T kk x) (T j).v (T j).a (T j).p 8), by omega, by go_num, f7, x5, r5, t7, by omega, by omega, by omega⟩
                case measure => simp [intOf]; omega
              | false =>
                have t0 : ((T j).v == 0 && ((T j).a == 0 && ((T j).p == 0 && ((T j).f == 0 && (T j).r == 0)))) = false := he
                by_cases hjk : j = kk
                · have m1 : ((j : Int) != (kk : Int)) = false := by simp; omega
                  clear hjk
                  go_wp2_with fail
                  go_roundw
                  case rel => exact ⟨j + 1, fo' + moreF (idx (filled T kk x) (T j).v (T j).a (T j).p 8), mi' + moreM (idx (filled T kk x) (T j).v (T j).a (T j).p 8), by omega, by go_num, f7, x5, r5, t7, by omega, by omega, by omega⟩
                  case measure => simp [intOf]; omega
                · have m1 : ((j : Int) != (kk : Int)) = true := by simp; omega
                  have hky : key (T j) x = false := by simp [key, t3]
                  have hsame : filled T kk x j = T j := kept hjk hky
                  have hix : (idx (filled T kk x) (T j).v (T j).a (T j).p 8) = j := idx_own (uniq_filled uk kk x) hjl (by rw [hsame]; exact he) (by rw [hsame]; exact key_self _)
                  have n0 : decide ((j : Int) < 0) = false := decide_eq_false (by omega)
                  have v1 : ansF (filled T kk x) j = (T j).f := by rw [ansF, n0, cond_false, Int.toNat_natCast, hsame]
                  have v2 : ansR (filled T kk x) j = (T j).r := by rw [ansR, n0, cond_false, Int.toNat_natCast, hsame]
                  have v3 : ansB j = true := by rw [ansB, n0]; rfl
                  have m2 : ((T j).f != (T j).f) = false := by simp
                  have m3 : ((T j).r != (T j).r) = false := by simp
                  rw [hix] at t7 hmb
                  rw [hix, v1, v2, v3]
                  clear hix v1 v2 v3 hsame hky n0
                  go_wp2_with fail
                  go_roundw
                  case rel => exact ⟨j + 1, fo' + moreF j, mi' + moreM j, by omega, by go_num, f7, x5, r5, t7, by omega, by omega, by omega⟩
                  case measure => simp [intOf]; omega
            | true =>
              go_wp2_with fail
              refine (find_any _ _ _ _ _ (T j).v (T j).a (T j).p t4 (by omega) (by omega)).mono ?_
              rintro e w7 ⟨rfl, f7, t7⟩
              have hmb := more_bounds (idx (filled T kk x) (T j).v (T j).a (T j).p 8)
              have x5 := x4.keep f7 ng1
              have r5 := r4.keep f7 nb0
              have rb5 := rb.keep f7 nwb
              replace f7 := f4.lone f7 hbt
              obtain ⟨d0, d1, d2, d3, d4⟩ := row5 rb5
              clear x4 r4 t4 f4 rb
              cases he : emp (T j) with
              | true =>
                have t0 : ((T j).v == 0 && ((T j).a == 0 && ((T j).p == 0 && ((T j).f == 0 && (T j).r == 0)))) = true := he
                go_wp2_with fail
                go_roundw
                case rel => exact ⟨j + 1, fo' + moreF (idx (filled T kk x) (T j).v (T j).a (T j).p 8), mi' + moreM (idx (filled T kk x) (T j).v (T j).a (T j).p 8), by omega, by go_num, f7, x5, r5, t7, by omega, by omega, by omega⟩
                case measure => simp [intOf]; omega
              | false =>
                have t0 : ((T j).v == 0 && ((T j).a == 0 && ((T j).p == 0 && ((T j).f == 0 && (T j).r == 0)))) = false := he
                by_cases hjk : j = kk
                · have m1 : ((j : Int) != (kk : Int)) = false := by simp; omega
                  clear hjk
                  go_wp2_with fail
                  go_roundw
                  case rel => exact ⟨j + 1, fo' + moreF (idx (filled T kk x) (T j).v (T j).a (T j).p 8), mi' + moreM (idx (filled T kk x) (T j).v (T j).a (T j).p 8), by omega, by go_num, f7, x5, r5, t7, by omega, by omega, by omega⟩
                  case measure => simp [intOf]; omega
                · have m1 : ((j : Int) != (kk : Int)) = true := by simp; omega
                  go_wp2_with fail
                  go_roundw
                  case rel => exact ⟨j + 1, fo' + moreF (idx (filled T kk x) (T j).v (T j).a (T j).p 8), mi' + moreM (idx (filled T kk x) (T j).v (T j).a (T j).p 8), by omega, by go_num, f7, x5, r5, t7, by omega, by omega, by omega⟩
                  case measure => simp [intOf]; omega
          · obtain rfl : j = 8 := by omega
            obtain ⟨a0', a1', a2', a3', a4'⟩ := row5 rj
            have m1 : (x.f == x.f) = true := by simp
            have m2 : (x.r == x.r) = true := by simp
            go_wp2_with fail
            go_ret
            exact ⟨rfl, fw.trans fj⟩
    · have u1 : decide ((k : Int) < (len : Int)) = false := decide_eq_false (by omega)
      have tk := pk.tlb
      have gk := pk.good
      have uk := pk.uniq
      have hbt := pk.new1
      have q1 := pk.fo0
      have q2 := pk.mi0
      clear pk
      obtain ⟨w4, rfl⟩ : ∃ w4, w4 = wr := ⟨wr, rfl⟩
      go_wp2_with fail
      refine (lines_any _ _ _ _ _ tk).mono ?_
      rintro e w5 ⟨g1, rfl, hg1, f5, x1⟩
      have hlt5 := tk.lt
      have ng1 : g1 ≠ bt := by omega
      have nb0 : w.heap.size ≠ bt := by omega
      replace tk := tk.keep f5 (fun h => h)
      replace fk := fk.trans f5
      have rk := r0.keep fk (fun h => h)
      obtain ⟨c0, c1, c2, c3, c4⟩ := row5 rk
      clear f5 hlt5
      go_wp2_with fail
      refine (fill_any _ _ _ _ _ tk (kk : Int) x).mono ?_
      rintro e w6 ⟨rfl, f6, t6⟩
      replace x1 := x1.keep f6 ng1
      replace rk := rk.keep f6 nb0
      replace fk := fk.lone f6 hbt
      clear f6 tk c0 c1 c2 c3 c4
      rw [hT] at t6
      obtain ⟨c0, c1, c2, c3, c4⟩ := row5 rk
      rw [hE]
      go_wp2_with fail
      refine (find_any _ _ _ _ _ x.v x.a x.p t6 (by omega) (by omega)).mono ?_
      rintro e w7 ⟨rfl, f7, t7⟩
      rw [idx_filled T hk hx] at t7
      have hmb := more_bounds (kk : Int)
      rw [idx_filled T hk hx, ansF_filled T kk x, ansR_filled T kk x, ansB_nat kk]
      replace x1 := x1.keep f7 ng1
      replace rk := rk.keep f7 nb0
      replace fk := fk.lone f7 hbt
      clear f7 t6 c0 c1 c2 c3 c4
      go_wp2_with fail
      go_loopw [18] (fun i wr => ∃ (j : Nat) (fo' mi' : Int), j ≤ 8 ∧ i = .int .i64 j ∧ Fr none' w0 wr ∧ LineRow wr g1 8 8 T ∧ Row wr w.heap.size #[.int .i64 x.v, .int .i64 x.a, .int .i64 x.p, .int .i64 x.f, .int .i64 x.r] 28 ∧ IsTlb wr bt (filled T kk x) fo' mi' ∧ 0 ≤ fo' ∧ 0 ≤ mi' ∧ fo' + mi' ≤ 200 + j) (fun i _ => 8 - (intOf i).toNat)
      case atStart => exact ⟨0, _, _, by omega, rfl, fk, x1, rk, t7, by omega, by omega, by omega⟩
      case round =>
        clear fk x1 rk t7
        obtain ⟨j, fo', mi', hj, rfl, fj, xj, rj, tj, hq1, hq2, hq3⟩ := hrel
        by_cases hjl : j < 8
        · have y1 : 0 ≤ (j : Int) ∧ (j : Int) < 8 := by omega
          have y2 : decide ((j : Int) < 8) = true := decide_eq_true (by omega)
          have nwb : wr.heap.size ≠ bt := Nat.ne_of_gt tj.lt
          have nwx : w.heap.size ≠ wr.heap.size := Nat.ne_of_lt rj.lt
          obtain ⟨c0, c1, c2, c3, c4⟩ := xj.cells j hjl
          have x4 := xj.alloc (.cells #[.int .i64 (T j).v, .int .i64 (T j).a, .int .i64 (T j).p, .int .i64 (T j).f, .int .i64 (T j).r] 28)
          have r4 := rj.alloc (.cells #[.int .i64 (T j).v, .int .i64 (T j).a, .int .i64 (T j).p, .int .i64 (T j).f, .int .i64 (T j).r] 28)
          have t4 := tj.alloc (.cells #[.int .i64 (T j).v, .int .i64 (T j).a, .int .i64 (T j).p, .int .i64 (T j).f, .int .i64 (T j).r] 28)
          have f4 := fj.alloc (.cells #[.int .i64 (T j).v, .int .i64 (T j).a, .int .i64 (T j).p, .int .i64 (T j).f, .int .i64 (T j).r] 28)
          have rb := row_alloc wr #[.int .i64 (T j).v, .int .i64 (T j).a, .int .i64 (T j).p, .int .i64 (T j).f, .int .i64 (T j).r] 28
          obtain ⟨a0', a1', a2', a3', a4'⟩ := row5 r4
          clear xj rj tj fj
          cases t1 : ((T j).v == x.v) with
          | false =>
            go_wp2_with fail
            refine (find_any _ _ _ _ _ (T j).v (T j).a (T j).p t4 (by omega) (by omega)).mono ?_
            rintro e w7 ⟨rfl, f7, t7⟩
            have hmb := more_bounds (idx (filled T kk x) (T j).v (T j).a (T j).p 8)
            have x5 := x4.keep f7 ng1
            have r5 := r4.keep f7 nb0
            have rb5 := rb.keep f7 nwb
            replace f7 := f4.lone f7 hbt
            obtain ⟨d0, d1, d2, d3, d4⟩ := row5 rb5
            clear x4 r4 t4 f4 rb
            cases he : emp (T j) with
            | true =>
              have t0 : ((T j).v == 0 && ((T j).a == 0 && ((T j).p == 0 && ((T j).f == 0 && (T j).r == 0)))) = true := he
              go_wp2_with fail
              go_roundw
              case rel => exact ⟨j + 1, fo' + moreF (idx (filled T kk x) (T j).v (T j).a (T j).p 8), mi' + moreM (idx (filled T kk x) (T j).v (T j).a (T j).p 8), by omega, by go_num, f7, x5, r5, t7, by omega, by omega, by omega⟩
              case measure => simp [intOf]; omega
            | false =>
              have t0 : ((T j).v == 0 && ((T j).a == 0 && ((T j).p == 0 && ((T j).f == 0 && (T j).r == 0)))) = false := he
              by_cases hjk : j = kk
              · have m1 : ((j : Int) != (kk : Int)) = false := by simp; omega
                clear hjk
                go_wp2_with fail
                go_roundw
                case rel => exact ⟨j + 1, fo' + moreF (idx (filled T kk x) (T j).v (T j).a (T j).p 8), mi' + moreM (idx (filled T kk x) (T j).v (T j).a (T j).p 8), by omega, by go_num, f7, x5, r5, t7, by omega, by omega, by omega⟩
                case measure => simp [intOf]; omega
              · have m1 : ((j : Int) != (kk : Int)) = true := by simp; omega
                have hky : key (T j) x = false := by simp [key, t1]
                have hsame : filled T kk x j = T j := kept hjk hky
                have hix : (idx (filled T kk x) (T j).v (T j).a (T j).p 8) = j := idx_own (uniq_filled uk kk x) hjl (by rw [hsame]; exact he) (by rw [hsame]; exact key_self _)
                have n0 : decide ((j : Int) < 0) = false := decide_eq_false (by omega)
                have v1 : ansF (filled T kk x) j = (T j).f := by rw [ansF, n0, cond_false, Int.toNat_natCast, hsame]
                have v2 : ansR (filled T kk x) j = (T j).r := by rw [ansR, n0, cond_false, Int.toNat_natCast, hsame]
                have v3 : ansB j = true := by rw [ansB, n0]; rfl
                have m2 : ((T j).f != (T j).f) = false := by simp
                have m3 : ((T j).r != (T j).r) = false := by simp
                rw [hix] at t7 hmb
                rw [hix, v1, v2, v3]
                clear hix v1 v2 v3 hsame hky n0
                go_wp2_with fail
                go_roundw
                case rel => exact ⟨j + 1, fo' + moreF j, mi' + moreM j, by omega, by go_num, f7, x5, r5, t7, by omega, by omega, by omega⟩
                case measure => simp [intOf]; omega
          | true =>
          cases t2 : ((T j).a == x.a) with
          | false =>
            go_wp2_with fail
            refine (find_any _ _ _ _ _ (T j).v (T j).a (T j).p t4 (by omega) (by omega)).mono ?_
            rintro e w7 ⟨rfl, f7, t7⟩
            have hmb := more_bounds (idx (filled T kk x) (T j).v (T j).a (T j).p 8)
            have x5 := x4.keep f7 ng1
            have r5 := r4.keep f7 nb0
            have rb5 := rb.keep f7 nwb
            replace f7 := f4.lone f7 hbt
            obtain ⟨d0, d1, d2, d3, d4⟩ := row5 rb5
            clear x4 r4 t4 f4 rb
            cases he : emp (T j) with
            | true =>
              have t0 : ((T j).v == 0 && ((T j).a == 0 && ((T j).p == 0 && ((T j).f == 0 && (T j).r == 0)))) = true := he
              go_wp2_with fail
              go_roundw
              case rel => exact ⟨j + 1, fo' + moreF (idx (filled T kk x) (T j).v (T j).a (T j).p 8), mi' + moreM (idx (filled T kk x) (T j).v (T j).a (T j).p 8), by omega, by go_num, f7, x5, r5, t7, by omega, by omega, by omega⟩
              case measure => simp [intOf]; omega
            | false =>
              have t0 : ((T j).v == 0 && ((T j).a == 0 && ((T j).p == 0 && ((T j).f == 0 && (T j).r == 0)))) = false := he
              by_cases hjk : j = kk
              · have m1 : ((j : Int) != (kk : Int)) = false := by simp; omega
                clear hjk
                go_wp2_with fail
                go_roundw
                case rel => exact ⟨j + 1, fo' + moreF (idx (filled T kk x) (T j).v (T j).a (T j).p 8), mi' + moreM (idx (filled T kk x) (T j).v (T j).a (T j).p 8), by omega, by go_num, f7, x5, r5, t7, by omega, by omega, by omega⟩
                case measure => simp [intOf]; omega
              · have m1 : ((j : Int) != (kk : Int)) = true := by simp; omega
                have hky : key (T j) x = false := by simp [key, t2]
                have hsame : filled T kk x j = T j := kept hjk hky
                have hix : (idx (filled T kk x) (T j).v (T j).a (T j).p 8) = j := idx_own (uniq_filled uk kk x) hjl (by rw [hsame]; exact he) (by rw [hsame]; exact key_self _)
                have n0 : decide ((j : Int) < 0) = false := decide_eq_false (by omega)
                have v1 : ansF (filled T kk x) j = (T j).f := by rw [ansF, n0, cond_false, Int.toNat_natCast, hsame]
                have v2 : ansR (filled T kk x) j = (T j).r := by rw [ansR, n0, cond_false, Int.toNat_natCast, hsame]
                have v3 : ansB j = true := by rw [ansB, n0]; rfl
                have m2 : ((T j).f != (T j).f) = false := by simp
                have m3 : ((T j).r != (T j).r) = false := by simp
                rw [hix] at t7 hmb
                rw [hix, v1, v2, v3]
                clear hix v1 v2 v3 hsame hky n0
                go_wp2_with fail
                go_roundw
                case rel => exact ⟨j + 1, fo' + moreF j, mi' + moreM j, by omega, by go_num, f7, x5, r5, t7, by omega, by omega, by omega⟩
                case measure => simp [intOf]; omega
          | true =>
          cases t3 : ((T j).p == x.p) with
          | false =>
            go_wp2_with fail
            refine (find_any _ _ _ _ _ (T j).v (T j).a (T j).p t4 (by omega) (by omega)).mono ?_
            rintro e w7 ⟨rfl, f7, t7⟩
            have hmb := more_bounds (idx (filled T kk x) (T j).v (T j).a (T j).p 8)
            have x5 := x4.keep f7 ng1
            have r5 := r4.keep f7 nb0
            have rb5 := rb.keep f7 nwb
            replace f7 := f4.lone f7 hbt
            obtain ⟨d0, d1, d2, d3, d4⟩ := row5 rb5
            clear x4 r4 t4 f4 rb
            cases he : emp (T j) with
            | true =>
              have t0 : ((T j).v == 0 && ((T j).a == 0 && ((T j).p == 0 && ((T j).f == 0 && (T j).r == 0)))) = true := he
              go_wp2_with fail
              go_roundw
              case rel => exact ⟨j + 1, fo' + moreF (idx (filled T kk x) (T j).v (T j).a (T j).p 8), mi' + moreM (idx (filled T kk x) (T j).v (T j).a (T j).p 8), by omega, by go_num, f7, x5, r5, t7, by omega, by omega, by omega⟩
              case measure => simp [intOf]; omega
            | false =>
              have t0 : ((T j).v == 0 && ((T j).a == 0 && ((T j).p == 0 && ((T j).f == 0 && (T j).r == 0)))) = false := he
              by_cases hjk : j = kk
              · have m1 : ((j : Int) != (kk : Int)) = false := by simp; omega
                clear hjk
                go_wp2_with fail
                go_roundw
                case rel => exact ⟨j + 1, fo' + moreF (idx (filled T kk x) (T j).v (T j).a (T j).p 8), mi' + moreM (idx (filled T kk x) (T j).v (T j).a (T j).p 8), by omega, by go_num, f7, x5, r5, t7, by omega, by omega, by omega⟩
                case measure => simp [intOf]; omega
              · have m1 : ((j : Int) != (kk : Int)) = true := by simp; omega
                have hky : key (T j) x = false := by simp [key, t3]
                have hsame : filled T kk x j = T j := kept hjk hky
                have hix : (idx (filled T kk x) (T j).v (T j).a (T j).p 8) = j := idx_own (uniq_filled uk kk x) hjl (by rw [hsame]; exact he) (by rw [hsame]; exact key_self _)
                have n0 : decide ((j : Int) < 0) = false := decide_eq_false (by omega)
                have v1 : ansF (filled T kk x) j = (T j).f := by rw [ansF, n0, cond_false, Int.toNat_natCast, hsame]
                have v2 : ansR (filled T kk x) j = (T j).r := by rw [ansR, n0, cond_false, Int.toNat_natCast, hsame]
                have v3 : ansB j = true := by rw [ansB, n0]; rfl
                have m2 : ((T j).f != (T j).f) = false := by simp
                have m3 : ((T j).r != (T j).r) = false := by simp
                rw [hix] at t7 hmb
                rw [hix, v1, v2, v3]
                clear hix v1 v2 v3 hsame hky n0
                go_wp2_with fail
                go_roundw
                case rel => exact ⟨j + 1, fo' + moreF j, mi' + moreM j, by omega, by go_num, f7, x5, r5, t7, by omega, by omega, by omega⟩
                case measure => simp [intOf]; omega
          | true =>
            go_wp2_with fail
            refine (find_any _ _ _ _ _ (T j).v (T j).a (T j).p t4 (by omega) (by omega)).mono ?_
            rintro e w7 ⟨rfl, f7, t7⟩
            have hmb := more_bounds (idx (filled T kk x) (T j).v (T j).a (T j).p 8)
            have x5 := x4.keep f7 ng1
            have r5 := r4.keep f7 nb0
            have rb5 := rb.keep f7 nwb
            replace f7 := f4.lone f7 hbt
            obtain ⟨d0, d1, d2, d3, d4⟩ := row5 rb5
            clear x4 r4 t4 f4 rb
            cases he : emp (T j) with
            | true =>
              have t0 : ((T j).v == 0 && ((T j).a == 0 && ((T j).p == 0 && ((T j).f == 0 && (T j).r == 0)))) = true := he
              go_wp2_with fail
              go_roundw
              case rel => exact ⟨j + 1, fo' + moreF (idx (filled T kk x) (T j).v (T j).a (T j).p 8), mi' + moreM (idx (filled T kk x) (T j).v (T j).a (T j).p 8), by omega, by go_num, f7, x5, r5, t7, by omega, by omega, by omega⟩
              case measure => simp [intOf]; omega
            | false =>
              have t0 : ((T j).v == 0 && ((T j).a == 0 && ((T j).p == 0 && ((T j).f == 0 && (T j).r == 0)))) = false := he
              by_cases hjk : j = kk
              · have m1 : ((j : Int) != (kk : Int)) = false := by simp; omega
                clear hjk
                go_wp2_with fail
                go_roundw
                case rel => exact ⟨j + 1, fo' + moreF (idx (filled T kk x) (T j).v (T j).a (T j).p 8), mi' + moreM (idx (filled T kk x) (T j).v (T j).a (T j).p 8), by omega, by go_num, f7, x5, r5, t7, by omega, by omega, by omega⟩
                case measure => simp [intOf]; omega
              · have m1 : ((j : Int) != (kk : Int)) = true := by simp; omega
                go_wp2_with fail
                go_roundw
                case rel => exact ⟨j + 1, fo' + moreF (idx (filled T kk x) (T j).v (T j).a (T j).p 8), mi' + moreM (idx (filled T kk x) (T j).v (T j).a (T j).p 8), by omega, by go_num, f7, x5, r5, t7, by omega, by omega, by omega⟩
                case measure => simp [intOf]; omega
        · obtain rfl : j = 8 := by omega
          obtain ⟨a0', a1', a2', a3', a4'⟩ := row5 rj
          have m1 : (x.f == x.f) = true := by simp
          have m2 : (x.r == x.r) = true := by simp
          go_wp2_with fail
          go_ret
          exact ⟨rfl, fw.trans fj⟩

end Go.Proofs.Ytkmpmjjjklfalaa
