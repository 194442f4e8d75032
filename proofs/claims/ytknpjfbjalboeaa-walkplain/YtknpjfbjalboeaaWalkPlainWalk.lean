/-
  The law WalkPlain walked: whatever came in, it answers true and turns nothing old. No statement is proved here.
-/
import Derived.Test.YtknpjfbjalboeaaWalkAwake
import Derived.Test.YtknpjfbjalboeaaWalkPlainPure
import Derived.Test.YtknpjfbjalboeaaWalkPutOwn
import Derived.Test.YtknpjfbjalboeaaWalkOpen
namespace Go.Proofs.Ytknpjfbjalboeaa
open Go.RowKit

set_option maxHeartbeats 16000000 in
set_option maxRecDepth 100000 in
theorem plain_fr (w : World) (a0 : Option Addr) (len cap : Nat) (P : Nat → Pt) (hl : len ≤ 9223372036854775807) (hP : Puts w a0 len P) (second page want : Int) :
    Calls Try.prog 4 #[.slice a0 len cap, .int .i64 second, .int .i64 page, .int .i64 want] w fun e w' => e = .returned (.bool true) ∧ Fr none' w w' := by
  have HP : Hid (Puts w a0 len P) := hP
  clear hP
  go_enter Try.func4, Try.ntmps4
  go_wp2_with fail
  refine (awake_any _).mono ?_
  rintro e v1 ⟨rfl, f1⟩
  go_wp2_with fail
  go_loopw [10, 11] (fun v i wr => ∃ (k n : Nat) (Q : Nat → Pt), k ≤ len ∧ k ≤ 60 ∧ i = .int .i64 k ∧ n ≤ k ∧ Fr none' w wr ∧ OwnP wr w.heap.size v n Q) (fun _ i _ => 60 - (intOf i).toNat)
  case atStart => exact ⟨0, 0, P, by omega, by omega, rfl, by omega, f1, ownp_nil _ _ _⟩
  case round =>
    clear f1
    obtain ⟨k, n, Q, hk, hk60, rfl, hn, fk, ok⟩ := hrel
    by_cases hlt : k < len
    · by_cases hlt2 : k < 60
      · obtain ⟨b, o, rfl, pk0⟩ := HP.out k hlt
        have pk := pk0.keep fk (fun h => h)
        clear pk0
        have i1 : 0 ≤ (k : Int) ∧ (k : Int) < (len : Int) := by omega
        have uk1 : decide ((k : Int) < (len : Int)) = true := decide_eq_true (by omega)
        have uk2 : decide ((k : Int) < 60) = true := decide_eq_true (by omega)
        by_cases h1 : (P k).t = 14
        · skip
          have t0 : ((P k).t != 14) = false := by simp; omega
          clear h1
          obtain ⟨c0, c1, c2, c3, c4, c5, c6, c7⟩ := pk.cells
          clear pk
          go_wp2_with fail
          go_roundw
          case rel => exact ⟨k + 1, n, Q, by omega, by omega, by go_num, by omega, fk, ok⟩
          case measure => simp [intOf]; omega
        by_cases h2 : (P k).t = 15
        · skip
          have t0 : ((P k).t != 14) = true := by simp; omega
          have t1 : ((P k).t != 15) = false := by simp; omega
          clear h1 h2
          obtain ⟨c0, c1, c2, c3, c4, c5, c6, c7⟩ := pk.cells
          clear pk
          go_wp2_with fail
          go_roundw
          case rel => exact ⟨k + 1, n, Q, by omega, by omega, by go_num, by omega, fk, ok⟩
          case measure => simp [intOf]; omega
        by_cases h3 : (P k).t = second
        · by_cases h4 : (P k).i = 0
          · skip
            have t0 : ((P k).t != 14) = true := by simp; omega
            have t1 : ((P k).t != 15) = true := by simp; omega
            have t2 : ((P k).t == second) = true := by simp; omega
            have t3 : ((P k).i == 0) = true := by simp; omega
            clear h1 h2 h3 h4
            obtain ⟨c0, c1, c2, c3, c4, c5, c6, c7⟩ := pk.cells
            clear pk
            go_wp2_with fail
            go_roundw
            case rel => exact ⟨k + 1, n, Q, by omega, by omega, by go_num, by omega, fk, ok⟩
            case measure => simp [intOf]; omega
          by_cases h5 : (P k).t = 13
          · skip
            have t0 : ((P k).t != 14) = true := by simp; omega
            have t1 : ((P k).t != 15) = true := by simp; omega
            have t2 : ((P k).t == second) = true := by simp; omega
            have t3 : ((P k).i == 0) = false := by simp; omega
            have t4 : ((P k).t != 13) = false := by simp; omega
            clear h1 h2 h3 h4 h5
            obtain ⟨c0, c1, c2, c3, c4, c5, c6, c7⟩ := pk.cells
            clear pk
            go_wp2_with fail
            go_roundw
            case rel => exact ⟨k + 1, n, Q, by omega, by omega, by go_num, by omega, fk, ok⟩
            case measure => simp [intOf]; omega
          · skip
            have t0 : ((P k).t != 14) = true := by simp; omega
            have t1 : ((P k).t != 15) = true := by simp; omega
            have t2 : ((P k).t == second) = true := by simp; omega
            have t3 : ((P k).i == 0) = false := by simp; omega
            have t4 : ((P k).t != 13) = true := by simp; omega
            clear h1 h2 h3 h4 h5
            obtain ⟨c0, c1, c2, c3, c4, c5, c6, c7⟩ := pk.cells
            have hw := pk.word
            have g0 := (Fr.refl none' wr).alloc (.cells (ptV (P k)) 47)
            obtain ⟨v', w4, HR, f4, o4⟩ := append_put (wr.alloc (.cells (ptV (P k)) 47)) w.heap.size ⟨wr.heap.size, 0, none⟩ u10 n Q (P k) (by have := fk.size; have := g0.size; omega) (ok.keep0 g0) (by omega) hw (laid_cells wr (P k))
            have F4 : Hid (Fr none' w w4) := (fk.trans g0).ownP f4 (ok.keep0 g0)
            have O4 : Hid (OwnP w4 w.heap.size v' (n + 1) (updP Q n (P k))) := o4
            unfold ptV at HR
            clear pk hw g0 f4 o4 fk ok
            go_wp2_with (at_builtin; refine wpList_append_run rfl _ _ _ rfl _ _ rfl rfl _ _ HR ?_)
            go_roundw
            case rel => exact ⟨k + 1, n + 1, _, by omega, by omega, by go_num, by omega, F4.out, O4.out⟩
            case measure => simp [intOf]; omega
        by_cases h5 : (P k).t = 13
        · skip
          have t0 : ((P k).t != 14) = true := by simp; omega
          have t1 : ((P k).t != 15) = true := by simp; omega
          have t2 : ((P k).t == second) = false := by simp; omega
          have t3 : ((P k).t != 13) = false := by simp; omega
          clear h1 h2 h3 h5
          obtain ⟨c0, c1, c2, c3, c4, c5, c6, c7⟩ := pk.cells
          clear pk
          go_wp2_with fail
          go_roundw
          case rel => exact ⟨k + 1, n, Q, by omega, by omega, by go_num, by omega, fk, ok⟩
          case measure => simp [intOf]; omega
        · skip
          have t0 : ((P k).t != 14) = true := by simp; omega
          have t1 : ((P k).t != 15) = true := by simp; omega
          have t2 : ((P k).t == second) = false := by simp; omega
          have t3 : ((P k).t != 13) = true := by simp; omega
          clear h1 h2 h3 h5
          obtain ⟨c0, c1, c2, c3, c4, c5, c6, c7⟩ := pk.cells
          have hw := pk.word
          have g0 := (Fr.refl none' wr).alloc (.cells (ptV (P k)) 47)
          obtain ⟨v', w4, HR, f4, o4⟩ := append_put (wr.alloc (.cells (ptV (P k)) 47)) w.heap.size ⟨wr.heap.size, 0, none⟩ u10 n Q (P k) (by have := fk.size; have := g0.size; omega) (ok.keep0 g0) (by omega) hw (laid_cells wr (P k))
          have F4 : Hid (Fr none' w w4) := (fk.trans g0).ownP f4 (ok.keep0 g0)
          have O4 : Hid (OwnP w4 w.heap.size v' (n + 1) (updP Q n (P k))) := o4
          unfold ptV at HR
          clear pk hw g0 f4 o4 fk ok
          go_wp2_with (at_builtin; refine wpList_append_run rfl _ _ _ rfl _ _ rfl rfl _ _ HR ?_)
          go_roundw
          case rel => exact ⟨k + 1, n + 1, _, by omega, by omega, by go_num, by omega, F4.out, O4.out⟩
          case measure => simp [intOf]; omega
      · obtain rfl : k = 60 := by omega
        have uk1 : decide ((60 : Int) < (len : Int)) = true := decide_eq_true (by omega)
        by_cases s1 : second < 0
        · have z1 : decide (second < 0) = true := decide_eq_true s1
          go_wp2_with fail
          go_ret
          exact ⟨rfl, fk⟩
        have z1 : decide (second < 0) = false := decide_eq_false s1
        by_cases s2 : 12 < second
        · have z2 : decide (12 < second) = true := decide_eq_true s2
          go_wp2_with fail
          go_ret
          exact ⟨rfl, fk⟩
        have z2 : decide (12 < second) = false := decide_eq_false s2
        by_cases s3 : page < 0
        · have z3 : decide (page < 0) = true := decide_eq_true s3
          go_wp2_with fail
          go_ret
          exact ⟨rfl, fk⟩
        have z3 : decide (page < 0) = false := decide_eq_false s3
        by_cases s4 : 29 < page
        · have z4 : decide (29 < page) = true := decide_eq_true s4
          go_wp2_with fail
          go_ret
          exact ⟨rfl, fk⟩
        have z4 : decide (29 < page) = false := decide_eq_false s4
        have HS : Hid (0 ≤ second ∧ second ≤ 12 ∧ 0 ≤ page ∧ page ≤ 29 ∧ n ≤ 60) := ⟨by omega, by omega, by omega, by omega, by omega⟩
        replace ok : OwnP wr w.heap.size u10 n (plP Q n second page) := ok.congr (fun j hj => (plP_old Q n second page hj).symm)
        have e0 := (Fr.refl none' wr).alloc (.cells (ptV ⟨second, 0, true, false, 0, 13, false, 0⟩) 47)
        obtain ⟨v0, w0, HR0, f0, o0⟩ := append_pl (wr.alloc (.cells (ptV ⟨second, 0, true, false, 0, 13, false, 0⟩) 47)) w.heap.size ⟨wr.heap.size, 0, none⟩ u10 (n) (plP Q n second page) ⟨second, 0, true, false, 0, 13, false, 0⟩ (by have := fk.size; have := e0.size; omega) (ok.keep0 e0) (by omega) (show 0 < 65536 by decide) (plP_0 Q n second page) (laid_cells wr _)
        have F0 := (fk.trans e0).ownP f0 (ok.keep0 e0)
        unfold ptV at HR0
        clear e0 f0 fk ok
        have e1 := (Fr.refl none' w0).alloc (.cells (ptV ⟨13, 30, true, true, 1, 14, false, 0⟩) 47)
        obtain ⟨v1, w1, HR1, f1, o1⟩ := append_pl (w0.alloc (.cells (ptV ⟨13, 30, true, true, 1, 14, false, 0⟩) 47)) w.heap.size ⟨w0.heap.size, 0, none⟩ v0 (n + 1) (plP Q n second page) ⟨13, 30, true, true, 1, 14, false, 0⟩ (by have := F0.size; have := e1.size; omega) (o0.keep0 e1) (by omega) (show 0 < 65536 by decide) (plP_1 Q n second page) (laid_cells w0 _)
        have F1 := (F0.trans e1).ownP f1 (o0.keep0 e1)
        unfold ptV at HR1
        clear e1 f1 F0 o0
        have e2 := (Fr.refl none' w1).alloc (.cells (ptV ⟨13, 31, true, true, 1, 15, false, 0⟩) 47)
        obtain ⟨v2, w2, HR2, f2, o2⟩ := append_pl (w1.alloc (.cells (ptV ⟨13, 31, true, true, 1, 15, false, 0⟩) 47)) w.heap.size ⟨w1.heap.size, 0, none⟩ v1 (n + 2) (plP Q n second page) ⟨13, 31, true, true, 1, 15, false, 0⟩ (by have := F1.size; have := e2.size; omega) (o1.keep0 e2) (by omega) (show 0 < 65536 by decide) (plP_2 Q n second page) (laid_cells w1 _)
        have F2 := (F1.trans e2).ownP f2 (o1.keep0 e2)
        unfold ptV at HR2
        clear e2 f2 F1 o1
        have e3 := (Fr.refl none' w2).alloc (.cells (ptV ⟨13, page, true, true, 5, 3, false, 0⟩) 47)
        obtain ⟨v3, w3, HR3, f3, o3⟩ := append_pl (w2.alloc (.cells (ptV ⟨13, page, true, true, 5, 3, false, 0⟩) 47)) w.heap.size ⟨w2.heap.size, 0, none⟩ v2 (n + 3) (plP Q n second page) ⟨13, page, true, true, 5, 3, false, 0⟩ (by have := F2.size; have := e3.size; omega) (o2.keep0 e3) (by omega) (show 0 < 65536 by decide) (plP_3 Q n second page) (laid_cells w2 _)
        have F3 := (F2.trans e3).ownP f3 (o2.keep0 e3)
        unfold ptV at HR3
        clear e3 f3 F2 o2
        have e4 := (Fr.refl none' w3).alloc (.cells (ptV ⟨14, 0, true, false, 0, 31, false, 0⟩) 47)
        obtain ⟨v4, w4, HR4, f4, o4⟩ := append_pl (w3.alloc (.cells (ptV ⟨14, 0, true, false, 0, 31, false, 0⟩) 47)) w.heap.size ⟨w3.heap.size, 0, none⟩ v3 (n + 4) (plP Q n second page) ⟨14, 0, true, false, 0, 31, false, 0⟩ (by have := F3.size; have := e4.size; omega) (o3.keep0 e4) (by omega) (show 0 < 65536 by decide) (plP_4 Q n second page) (laid_cells w3 _)
        have F4 := (F3.trans e4).ownP f4 (o3.keep0 e4)
        unfold ptV at HR4
        clear e4 f4 F3 o3
        have FF : Hid (Fr none' w w4) := F4
        have OO : Hid (OwnP w4 w.heap.size v4 (n + 5) (plP Q n second page)) := o4
        clear F4 o4 s1 s2 s3 s4 hk hn
        go_wp2_with (first | (at_builtin; refine wpList_append_run rfl _ _ _ rfl _ _ rfl rfl _ _ HR0 ?_) | (at_builtin; refine wpList_append_run rfl _ _ _ rfl _ _ rfl rfl _ _ HR1 ?_) | (at_builtin; refine wpList_append_run rfl _ _ _ rfl _ _ rfl rfl _ _ HR2 ?_) | (at_builtin; refine wpList_append_run rfl _ _ _ rfl _ _ rfl rfl _ _ HR3 ?_) | (at_builtin; refine wpList_append_run rfl _ _ _ rfl _ _ rfl rfl _ _ HR4 ?_))
        clear HR0 HR1 HR2 HR3 HR4
        obtain ⟨wz, hwz⟩ : ∃ wz, wz = wr := ⟨wr, rfl⟩
        clear hwz
        go_loopw [10, 12] (fun v i wr => ∃ m : Nat, m ≤ 32 ∧ i = .int .i64 m ∧ Fr none' w wr ∧ OwnP wr w.heap.size v (n + 5 + m) (plP Q n second page)) (fun _ i _ => 32 - (intOf i).toNat)
        case atStart => exact ⟨0, by omega, rfl, FF.out, OO.out⟩
        case round =>
          clear FF OO
          obtain ⟨m, hm, rfl, fk, ok⟩ := hrel
          by_cases hm2 : m < 32
          · have i2 : decide ((m : Int) < 32) = true := decide_eq_true (by omega)
            have e9 := (Fr.refl none' wr).alloc (.cells (ptV ⟨15, (m : Int), true, true, 7, (m : Int), false, 0⟩) 47)
            obtain ⟨v9, w9, HR, f9, o9⟩ := append_pl (wr.alloc (.cells (ptV ⟨15, (m : Int), true, true, 7, (m : Int), false, 0⟩) 47)) w.heap.size ⟨wr.heap.size, 0, none⟩ u10 (n + 5 + m) (plP Q n second page) ⟨15, (m : Int), true, true, 7, (m : Int), false, 0⟩ (by have := fk.size; have := e9.size; omega) (ok.keep0 e9) (by have := HS.out; omega) (show 0 < 65536 by decide) (plP_5 Q n second page m) (laid_cells wr _)
            have F9 : Hid (Fr none' w w9) := (fk.trans e9).ownP f9 (ok.keep0 e9)
            have O9 : Hid (OwnP w9 w.heap.size v9 (n + 5 + m + 1) (plP Q n second page)) := o9
            unfold ptV at HR
            clear e9 f9 o9 fk ok
            go_wp2_with (at_builtin; refine wpList_append_run rfl _ _ _ rfl _ _ rfl rfl _ _ HR ?_)
            go_roundw
            case rel => exact ⟨m + 1, by omega, by go_num, F9.out, O9.out⟩
            case measure => simp [intOf]; omega
          · obtain rfl : m = 32 := by omega
            obtain ⟨a9, cap9, rfl, hP9⟩ := ok.puts
            clear ok
            have hs := HS.out
            go_wp2_with fail
            refine (laid_any _ _ _ _ (plP Q n second page) (by omega) hP9).mono ?_
            rintro e vl ⟨pm, bm, pr, br, rfl, gl, TW⟩
            rw [show min (n + 5 + 32) 200 = n + 37 by omega] at TW
            obtain ⟨bs, hbs⟩ : ∃ bs, laidB (plP Q n second page) (n + 37) = bs := ⟨_, rfl⟩
            rw [hbs] at TW
            have PP := plain_pure (want := want) hs.1 hs.2.1 hs.2.2.1 hs.2.2.2.1 bs hbs
            replace fk := fk.trans gl
            have h := TW.ram
            have N1 := fun w0 h0 => nested_any w0 pm bm 16 bs 0 0 (-1) second page want h0
            have N2 := fun w0 h0 => nested_any w0 pm bm 16 bs 0 0 30 second page want h0
            have N3 := fun w0 h0 => single_any w0 pm bm 16 bs second page h0
            clear gl TW hbs hP9 hs HS
            generalize nested bs 16 (-1) second page want = X at *
            generalize nested bs 16 30 second page want = Y at *
            generalize single bs 16 second page = Z at *
            have PH : Hid _ := PP
            clear PP
            go_wp2_with fail
            refine (N1 _ h).mono ?_
            rintro e v1 ⟨rfl, g1⟩
            have r1 := row_alloc v1 #[.int .i64 X.ft.k, .int .i64 X.ft.s, .int .i64 X.ft.l, .bool X.ft.wk, .int .i64 X.ft.p] 51
            replace h := (h.keep g1 (fun h => h) (fun h => h)).alloc (.cells #[.int .i64 X.ft.k, .int .i64 X.ft.s, .int .i64 X.ft.l, .bool X.ft.wk, .int .i64 X.ft.p] 51)
            replace fk := (fk.trans g1).alloc (.cells #[.int .i64 X.ft.k, .int .i64 X.ft.s, .int .i64 X.ft.l, .bool X.ft.wk, .int .i64 X.ft.p] 51)
            clear g1 N1
            go_wp2_with fail
            refine (N2 _ h).mono ?_
            rintro e v2 ⟨rfl, g1⟩
            replace r1 := (r1.keep g1 (fun h => h)).alloc (.cells #[.int .i64 Y.ft.k, .int .i64 Y.ft.s, .int .i64 Y.ft.l, .bool Y.ft.wk, .int .i64 Y.ft.p] 51)
            have r2 := row_alloc v2 #[.int .i64 Y.ft.k, .int .i64 Y.ft.s, .int .i64 Y.ft.l, .bool Y.ft.wk, .int .i64 Y.ft.p] 51
            replace h := (h.keep g1 (fun h => h) (fun h => h)).alloc (.cells #[.int .i64 Y.ft.k, .int .i64 Y.ft.s, .int .i64 Y.ft.l, .bool Y.ft.wk, .int .i64 Y.ft.p] 51)
            replace fk := (fk.trans g1).alloc (.cells #[.int .i64 Y.ft.k, .int .i64 Y.ft.s, .int .i64 Y.ft.l, .bool Y.ft.wk, .int .i64 Y.ft.p] 51)
            clear g1 N2
            go_wp2_with fail
            refine (N3 _ h).mono ?_
            rintro e v3 ⟨rfl, g1⟩
            replace r1 := (r1.keep g1 (fun h => h)).alloc (.cells #[.int .i64 Z.ft.k, .int .i64 Z.ft.s, .int .i64 Z.ft.l, .bool Z.ft.wk, .int .i64 Z.ft.p] 51)
            replace r2 := (r2.keep g1 (fun h => h)).alloc (.cells #[.int .i64 Z.ft.k, .int .i64 Z.ft.s, .int .i64 Z.ft.l, .bool Z.ft.wk, .int .i64 Z.ft.p] 51)
            have r3 := row_alloc v3 #[.int .i64 Z.ft.k, .int .i64 Z.ft.s, .int .i64 Z.ft.l, .bool Z.ft.wk, .int .i64 Z.ft.p] 51
            replace fk := (fk.trans g1).alloc (.cells #[.int .i64 Z.ft.k, .int .i64 Z.ft.s, .int .i64 Z.ft.l, .bool Z.ft.wk, .int .i64 Z.ft.p] 51)
            clear g1 N3 h
            obtain ⟨x0, x1, x2, x3, x4⟩ := cells5 r1
            obtain ⟨y0, y1, y2, y3, y4⟩ := cells5 r2
            obtain ⟨q0, q1, q2, q3, q4⟩ := cells5 r3
            obtain ⟨⟨p1, p2, p3, p4⟩, p5⟩ := PH.out
            have b1 : (X.fr == Y.fr) = true := by simp [p1]
            have b2 : (X.ri == Y.ri) = true := by simp [p2]
            have b3 : (X.ft.k == Y.ft.k) = true := by simp [p3]
            have b4 : (X.ft.p == Y.ft.p) = true := by simp [p4]
            clear p1 p2 p3 p4
            by_cases hk : X.ft.k = 0
            · obtain ⟨p6, p7, p8⟩ := p5 hk
              have b5 : (X.ft.k == 0) = true := by simp [hk]
              have b6 : (X.fr != Z.fr) = false := by simp [p6]
              have b7 : (X.ri != Z.ri) = false := by simp [p7]
              have b8 : (Z.ft.k != 0) = false := by simp [p8]
              clear p5 p6 p7 p8 hk
              go_wp2_with fail
              go_ret
              exact ⟨rfl, fk⟩
            · have b5 : (X.ft.k == 0) = false := by simp [hk]
              clear p5 hk
              go_wp2_with fail
              go_ret
              exact ⟨rfl, fk⟩
    · obtain rfl : k = len := by omega
      have uk1 : decide ((k : Int) < (k : Int)) = false := decide_eq_false (by omega)
      by_cases s1 : second < 0
      · have z1 : decide (second < 0) = true := decide_eq_true s1
        go_wp2_with fail
        go_ret
        exact ⟨rfl, fk⟩
      have z1 : decide (second < 0) = false := decide_eq_false s1
      by_cases s2 : 12 < second
      · have z2 : decide (12 < second) = true := decide_eq_true s2
        go_wp2_with fail
        go_ret
        exact ⟨rfl, fk⟩
      have z2 : decide (12 < second) = false := decide_eq_false s2
      by_cases s3 : page < 0
      · have z3 : decide (page < 0) = true := decide_eq_true s3
        go_wp2_with fail
        go_ret
        exact ⟨rfl, fk⟩
      have z3 : decide (page < 0) = false := decide_eq_false s3
      by_cases s4 : 29 < page
      · have z4 : decide (29 < page) = true := decide_eq_true s4
        go_wp2_with fail
        go_ret
        exact ⟨rfl, fk⟩
      have z4 : decide (29 < page) = false := decide_eq_false s4
      have HS : Hid (0 ≤ second ∧ second ≤ 12 ∧ 0 ≤ page ∧ page ≤ 29 ∧ n ≤ 60) := ⟨by omega, by omega, by omega, by omega, by omega⟩
      replace ok : OwnP wr w.heap.size u10 n (plP Q n second page) := ok.congr (fun j hj => (plP_old Q n second page hj).symm)
      have e0 := (Fr.refl none' wr).alloc (.cells (ptV ⟨second, 0, true, false, 0, 13, false, 0⟩) 47)
      obtain ⟨v0, w0, HR0, f0, o0⟩ := append_pl (wr.alloc (.cells (ptV ⟨second, 0, true, false, 0, 13, false, 0⟩) 47)) w.heap.size ⟨wr.heap.size, 0, none⟩ u10 (n) (plP Q n second page) ⟨second, 0, true, false, 0, 13, false, 0⟩ (by have := fk.size; have := e0.size; omega) (ok.keep0 e0) (by omega) (show 0 < 65536 by decide) (plP_0 Q n second page) (laid_cells wr _)
      have F0 := (fk.trans e0).ownP f0 (ok.keep0 e0)
      unfold ptV at HR0
      clear e0 f0 fk ok
      have e1 := (Fr.refl none' w0).alloc (.cells (ptV ⟨13, 30, true, true, 1, 14, false, 0⟩) 47)
      obtain ⟨v1, w1, HR1, f1, o1⟩ := append_pl (w0.alloc (.cells (ptV ⟨13, 30, true, true, 1, 14, false, 0⟩) 47)) w.heap.size ⟨w0.heap.size, 0, none⟩ v0 (n + 1) (plP Q n second page) ⟨13, 30, true, true, 1, 14, false, 0⟩ (by have := F0.size; have := e1.size; omega) (o0.keep0 e1) (by omega) (show 0 < 65536 by decide) (plP_1 Q n second page) (laid_cells w0 _)
      have F1 := (F0.trans e1).ownP f1 (o0.keep0 e1)
      unfold ptV at HR1
      clear e1 f1 F0 o0
      have e2 := (Fr.refl none' w1).alloc (.cells (ptV ⟨13, 31, true, true, 1, 15, false, 0⟩) 47)
      obtain ⟨v2, w2, HR2, f2, o2⟩ := append_pl (w1.alloc (.cells (ptV ⟨13, 31, true, true, 1, 15, false, 0⟩) 47)) w.heap.size ⟨w1.heap.size, 0, none⟩ v1 (n + 2) (plP Q n second page) ⟨13, 31, true, true, 1, 15, false, 0⟩ (by have := F1.size; have := e2.size; omega) (o1.keep0 e2) (by omega) (show 0 < 65536 by decide) (plP_2 Q n second page) (laid_cells w1 _)
      have F2 := (F1.trans e2).ownP f2 (o1.keep0 e2)
      unfold ptV at HR2
      clear e2 f2 F1 o1
      have e3 := (Fr.refl none' w2).alloc (.cells (ptV ⟨13, page, true, true, 5, 3, false, 0⟩) 47)
      obtain ⟨v3, w3, HR3, f3, o3⟩ := append_pl (w2.alloc (.cells (ptV ⟨13, page, true, true, 5, 3, false, 0⟩) 47)) w.heap.size ⟨w2.heap.size, 0, none⟩ v2 (n + 3) (plP Q n second page) ⟨13, page, true, true, 5, 3, false, 0⟩ (by have := F2.size; have := e3.size; omega) (o2.keep0 e3) (by omega) (show 0 < 65536 by decide) (plP_3 Q n second page) (laid_cells w2 _)
      have F3 := (F2.trans e3).ownP f3 (o2.keep0 e3)
      unfold ptV at HR3
      clear e3 f3 F2 o2
      have e4 := (Fr.refl none' w3).alloc (.cells (ptV ⟨14, 0, true, false, 0, 31, false, 0⟩) 47)
      obtain ⟨v4, w4, HR4, f4, o4⟩ := append_pl (w3.alloc (.cells (ptV ⟨14, 0, true, false, 0, 31, false, 0⟩) 47)) w.heap.size ⟨w3.heap.size, 0, none⟩ v3 (n + 4) (plP Q n second page) ⟨14, 0, true, false, 0, 31, false, 0⟩ (by have := F3.size; have := e4.size; omega) (o3.keep0 e4) (by omega) (show 0 < 65536 by decide) (plP_4 Q n second page) (laid_cells w3 _)
      have F4 := (F3.trans e4).ownP f4 (o3.keep0 e4)
      unfold ptV at HR4
      clear e4 f4 F3 o3
      have FF : Hid (Fr none' w w4) := F4
      have OO : Hid (OwnP w4 w.heap.size v4 (n + 5) (plP Q n second page)) := o4
      clear F4 o4 s1 s2 s3 s4 hk hn
      go_wp2_with (first | (at_builtin; refine wpList_append_run rfl _ _ _ rfl _ _ rfl rfl _ _ HR0 ?_) | (at_builtin; refine wpList_append_run rfl _ _ _ rfl _ _ rfl rfl _ _ HR1 ?_) | (at_builtin; refine wpList_append_run rfl _ _ _ rfl _ _ rfl rfl _ _ HR2 ?_) | (at_builtin; refine wpList_append_run rfl _ _ _ rfl _ _ rfl rfl _ _ HR3 ?_) | (at_builtin; refine wpList_append_run rfl _ _ _ rfl _ _ rfl rfl _ _ HR4 ?_))
      clear HR0 HR1 HR2 HR3 HR4
      obtain ⟨wz, hwz⟩ : ∃ wz, wz = wr := ⟨wr, rfl⟩
      clear hwz
      go_loopw [10, 12] (fun v i wr => ∃ m : Nat, m ≤ 32 ∧ i = .int .i64 m ∧ Fr none' w wr ∧ OwnP wr w.heap.size v (n + 5 + m) (plP Q n second page)) (fun _ i _ => 32 - (intOf i).toNat)
      case atStart => exact ⟨0, by omega, rfl, FF.out, OO.out⟩
      case round =>
        clear FF OO
        obtain ⟨m, hm, rfl, fk, ok⟩ := hrel
        by_cases hm2 : m < 32
        · have i2 : decide ((m : Int) < 32) = true := decide_eq_true (by omega)
          have e9 := (Fr.refl none' wr).alloc (.cells (ptV ⟨15, (m : Int), true, true, 7, (m : Int), false, 0⟩) 47)
          obtain ⟨v9, w9, HR, f9, o9⟩ := append_pl (wr.alloc (.cells (ptV ⟨15, (m : Int), true, true, 7, (m : Int), false, 0⟩) 47)) w.heap.size ⟨wr.heap.size, 0, none⟩ u10 (n + 5 + m) (plP Q n second page) ⟨15, (m : Int), true, true, 7, (m : Int), false, 0⟩ (by have := fk.size; have := e9.size; omega) (ok.keep0 e9) (by have := HS.out; omega) (show 0 < 65536 by decide) (plP_5 Q n second page m) (laid_cells wr _)
          have F9 : Hid (Fr none' w w9) := (fk.trans e9).ownP f9 (ok.keep0 e9)
          have O9 : Hid (OwnP w9 w.heap.size v9 (n + 5 + m + 1) (plP Q n second page)) := o9
          unfold ptV at HR
          clear e9 f9 o9 fk ok
          go_wp2_with (at_builtin; refine wpList_append_run rfl _ _ _ rfl _ _ rfl rfl _ _ HR ?_)
          go_roundw
          case rel => exact ⟨m + 1, by omega, by go_num, F9.out, O9.out⟩
          case measure => simp [intOf]; omega
        · obtain rfl : m = 32 := by omega
          obtain ⟨a9, cap9, rfl, hP9⟩ := ok.puts
          clear ok
          have hs := HS.out
          go_wp2_with fail
          refine (laid_any _ _ _ _ (plP Q n second page) (by omega) hP9).mono ?_
          rintro e vl ⟨pm, bm, pr, br, rfl, gl, TW⟩
          rw [show min (n + 5 + 32) 200 = n + 37 by omega] at TW
          obtain ⟨bs, hbs⟩ : ∃ bs, laidB (plP Q n second page) (n + 37) = bs := ⟨_, rfl⟩
          rw [hbs] at TW
          have PP := plain_pure (want := want) hs.1 hs.2.1 hs.2.2.1 hs.2.2.2.1 bs hbs
          replace fk := fk.trans gl
          have h := TW.ram
          have N1 := fun w0 h0 => nested_any w0 pm bm 16 bs 0 0 (-1) second page want h0
          have N2 := fun w0 h0 => nested_any w0 pm bm 16 bs 0 0 30 second page want h0
          have N3 := fun w0 h0 => single_any w0 pm bm 16 bs second page h0
          clear gl TW hbs hP9 hs HS
          generalize nested bs 16 (-1) second page want = X at *
          generalize nested bs 16 30 second page want = Y at *
          generalize single bs 16 second page = Z at *
          have PH : Hid _ := PP
          clear PP
          go_wp2_with fail
          refine (N1 _ h).mono ?_
          rintro e v1 ⟨rfl, g1⟩
          have r1 := row_alloc v1 #[.int .i64 X.ft.k, .int .i64 X.ft.s, .int .i64 X.ft.l, .bool X.ft.wk, .int .i64 X.ft.p] 51
          replace h := (h.keep g1 (fun h => h) (fun h => h)).alloc (.cells #[.int .i64 X.ft.k, .int .i64 X.ft.s, .int .i64 X.ft.l, .bool X.ft.wk, .int .i64 X.ft.p] 51)
          replace fk := (fk.trans g1).alloc (.cells #[.int .i64 X.ft.k, .int .i64 X.ft.s, .int .i64 X.ft.l, .bool X.ft.wk, .int .i64 X.ft.p] 51)
          clear g1 N1
          go_wp2_with fail
          refine (N2 _ h).mono ?_
          rintro e v2 ⟨rfl, g1⟩
          replace r1 := (r1.keep g1 (fun h => h)).alloc (.cells #[.int .i64 Y.ft.k, .int .i64 Y.ft.s, .int .i64 Y.ft.l, .bool Y.ft.wk, .int .i64 Y.ft.p] 51)
          have r2 := row_alloc v2 #[.int .i64 Y.ft.k, .int .i64 Y.ft.s, .int .i64 Y.ft.l, .bool Y.ft.wk, .int .i64 Y.ft.p] 51
          replace h := (h.keep g1 (fun h => h) (fun h => h)).alloc (.cells #[.int .i64 Y.ft.k, .int .i64 Y.ft.s, .int .i64 Y.ft.l, .bool Y.ft.wk, .int .i64 Y.ft.p] 51)
          replace fk := (fk.trans g1).alloc (.cells #[.int .i64 Y.ft.k, .int .i64 Y.ft.s, .int .i64 Y.ft.l, .bool Y.ft.wk, .int .i64 Y.ft.p] 51)
          clear g1 N2
          go_wp2_with fail
          refine (N3 _ h).mono ?_
          rintro e v3 ⟨rfl, g1⟩
          replace r1 := (r1.keep g1 (fun h => h)).alloc (.cells #[.int .i64 Z.ft.k, .int .i64 Z.ft.s, .int .i64 Z.ft.l, .bool Z.ft.wk, .int .i64 Z.ft.p] 51)
          replace r2 := (r2.keep g1 (fun h => h)).alloc (.cells #[.int .i64 Z.ft.k, .int .i64 Z.ft.s, .int .i64 Z.ft.l, .bool Z.ft.wk, .int .i64 Z.ft.p] 51)
          have r3 := row_alloc v3 #[.int .i64 Z.ft.k, .int .i64 Z.ft.s, .int .i64 Z.ft.l, .bool Z.ft.wk, .int .i64 Z.ft.p] 51
          replace fk := (fk.trans g1).alloc (.cells #[.int .i64 Z.ft.k, .int .i64 Z.ft.s, .int .i64 Z.ft.l, .bool Z.ft.wk, .int .i64 Z.ft.p] 51)
          clear g1 N3 h
          obtain ⟨x0, x1, x2, x3, x4⟩ := cells5 r1
          obtain ⟨y0, y1, y2, y3, y4⟩ := cells5 r2
          obtain ⟨q0, q1, q2, q3, q4⟩ := cells5 r3
          obtain ⟨⟨p1, p2, p3, p4⟩, p5⟩ := PH.out
          have b1 : (X.fr == Y.fr) = true := by simp [p1]
          have b2 : (X.ri == Y.ri) = true := by simp [p2]
          have b3 : (X.ft.k == Y.ft.k) = true := by simp [p3]
          have b4 : (X.ft.p == Y.ft.p) = true := by simp [p4]
          clear p1 p2 p3 p4
          by_cases hk : X.ft.k = 0
          · obtain ⟨p6, p7, p8⟩ := p5 hk
            have b5 : (X.ft.k == 0) = true := by simp [hk]
            have b6 : (X.fr != Z.fr) = false := by simp [p6]
            have b7 : (X.ri != Z.ri) = false := by simp [p7]
            have b8 : (Z.ft.k != 0) = false := by simp [p8]
            clear p5 p6 p7 p8 hk
            go_wp2_with fail
            go_ret
            exact ⟨rfl, fk⟩
          · have b5 : (X.ft.k == 0) = false := by simp [hk]
            clear p5 hk
            go_wp2_with fail
            go_ret
            exact ⟨rfl, fk⟩

theorem plain_any (w : World) (a0 : Option Addr) (len cap : Nat) (P : Nat → Pt) (hl : len ≤ 9223372036854775807) (hP : Puts w a0 len P) (second page want : Int) :
    Calls Try.prog 4 #[.slice a0 len cap, .int .i64 second, .int .i64 page, .int .i64 want] w fun e w' => e = .returned (.bool true) ∧ Below w.heap.size w w' :=
  (plain_fr w a0 len cap P hl hP second page want).mono fun _ _ ⟨he, hf⟩ => ⟨he, hf.below (Nat.le_refl _) (fun _ h => h.elim)⟩

end Go.Proofs.Ytknpjfbjalboeaa
