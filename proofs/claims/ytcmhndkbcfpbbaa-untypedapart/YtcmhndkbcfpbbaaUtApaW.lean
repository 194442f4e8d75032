/-
  The law UntypedApart walked. No statement is proved here.
-/
import Derived.Test.YtcmhndkbcfpbbaaUtFulW
namespace Go.Proofs.Ytcmhndkbcfpbbaa
open Go.RowKit

theorem getC_one (x : Rg) : getC [x] x.f = x := by unfold getC; rw [fnd_one]; rfl
theorem getE_one (x : Rg) : getE [x] x.f = 0 := by unfold getE; rw [fnd_one]; rfl

/-- What a Carve of the one region that is there comes to. -/
theorem carve_one {y : Rg} (hy : okR y = true) {k n c : Int} (h : rooE [y] y.f k n c = 0) : ∃ a : Int, rooV [y] y.f k n c = a ∧ sizE k n = 0 ∧ sizV k n = n ∧ (1 ≤ n ∧ n ≤ 512) ∧ (1 ≤ c * n ∧ c * n ≤ 4096) ∧ a.tmod n = 0 ∧ y.f + y.m ≤ a ∧ a ≤ 1024 ∧ a + c * n ≤ y.f + y.n ∧ carS [y] y.f k n c = [⟨y.f, y.n, a + c * n - y.f, y.d⟩] ∧ okR ⟨y.f, y.n, a + c * n - y.f, y.d⟩ = true := by
  obtain ⟨x, hf, hr, hv⟩ := rooE_zero h
  rw [fnd_one] at hf
  cases hf
  have hg := okR_iff.1 hy
  have hq := carve_ok hg hr
  have hz := rmE_zero hr
  have hs := sizE_zero hz.1
  have hm := mul_small hz.2.1.1 hz.2.1.2 hs.1 hs.2.1
  have hu := upTo_le (n := y.f + y.m) hs.1
  refine ⟨upTo (y.f + y.m) n, hv, hz.1, if_pos hz.1, ⟨hs.1, hs.2.1⟩, hm, ?_, hu.1, hq.2.2.2, hz.2.2.2, ?_, ?_⟩
  · rw [Int.tmod_eq_emod_of_nonneg (by omega)]; exact hu.2.2
  · unfold carS
    rw [if_pos h, hv, setM_one]
  · exact okR_iff.2 ⟨hg.1, hg.2.1, hg.2.2.1, by dsimp only; omega, by dsimp only; omega⟩
theorem carve_not {y : Rg} {k n c : Int} (h : rooE [y] y.f k n c ≠ 0) : carS [y] y.f k n c = [y] := if_neg h

set_option maxRecDepth 100000 in
set_option maxHeartbeats 4000000 in
theorem lapart_any (x : Rg) (a0 : Option Addr) (len cap : Nat) (w : World) (hx : OkG x) (hl : len ≤ 9223372036854775807) (hA : ∃ A, Acs w a0 len A) : Calls Try.prog 5 #[rgV x, .slice a0 len cap] w fun e w' => e = .returned (.bool true) ∧ Below w.heap.size w w' := by
  obtain ⟨A, hA⟩ := hA
  have HA : Hid (Acs w a0 len A) := hA
  have r0 : RgR (w.alloc (.cells (rgA x) 39)) w.heap.size x := row_alloc w (rgA x) 39
  have f0 := (Fr.refl none' w).alloc (.cells (rgA x) 39)
  have hxf := hx.1
  clear hx hA
  dsimp only [rgV, rgA] at *
  go_enter Try.func5, Try.ntmps5
  go_wp2_with fail
  refine (awake_any _).mono ?_
  rintro e w1 ⟨rfl, f1⟩
  replace r0 := r0.keep f1 (fun h => h)
  replace f0 := f0.trans f1
  clear f1
  go_wp2_with fail
  refine (pnew w1).mono ?_
  rintro e w2 ⟨b, rfl, P⟩
  have r2 := r0.keep P.old (fun h => h)
  obtain ⟨d0, d1, d2, d3⟩ := r2.cells
  go_wp2_with fail
  refine (padd P x hxf).mono ?_
  rintro e w3 ⟨rfl, Q, _⟩
  clear d0 d1 d2 d3 r2 P
  cases ho : okR x with
  | false =>
    rw [addE_not ho]
    have HB : Hid (Below w.heap.size w w3) := (f0.trans Q.old).below (Nat.le_refl _) (fun _ h => h.elim)
    clear Q f0 r0 ho
    go_wp2_with fail
    go_ret
    exact ⟨rfl, HB.out⟩
  | true =>
    obtain ⟨e1, e2⟩ := addE_one ho
    rw [e1]
    rw [e2] at Q
    have hg := okR_iff.1 ho
    have HO : Hid (okR x = true) := ho
    clear e1 e2 ho
    have HP : Hid (Po w1 w3 b [x] (fun _ => False)) := Q
    have HR : Hid (RgR w1 w.heap.size x ∧ Fr none' w w1) := ⟨r0, f0⟩
    have r3 := r0.keep Q.old (fun h => h)
    obtain ⟨d0, d1, d2, d3⟩ := r3.cells
    have w5 : IntKind.i64.wrap (x.f + x.m) = x.f + x.m := w64 (by omega) (by omega)
    have w6 : IntKind.i64.wrap (x.f + x.n) = x.f + x.n := w64 (by omega) (by omega)
    clear Q r0 f0 r3
    go_wp2_with fail
    go_loopw [8, 9] (fun z i wr => ∃ (k : Nat) (m : Int), k ≤ len ∧ k ≤ 100 ∧ i = .int .i64 (k : Int) ∧ z = .int .i64 (x.f + m) ∧ 0 ≤ m ∧ m ≤ x.n ∧ Hid (Po w1 wr b [⟨x.f, x.n, m, x.d⟩] (fun _ => False))) (fun _ i _ => 100 - (intOf i).toNat)
    case atStart => exact ⟨0, x.m, by omega, by omega, rfl, rfl, by omega, by omega, HP⟩
    case round =>
      obtain ⟨k, m, hk1, hk2, rfl, rfl, hm0, hm1, HQ⟩ := hrel
      clear HP d0 d1 d2 d3
      have hFr : Fr none' w wr := HR.out.2.trans HQ.out.old
      by_cases hlt : k < len
      · by_cases hlt2 : k < 100
        · obtain ⟨g, o, rfl, ak, _⟩ := (HA.out.keep HR.out.2) k hlt
          have HS : Hid (∀ w', Fr none' w1 w' → w'.cell? ⟨w.heap.size, 0, none⟩ = some (.int .i64 x.f) ∧ w'.cell? ⟨w.heap.size, 1, none⟩ = some (.int .i64 x.n) ∧ w'.cell? ⟨g, o + k * 10 + 6, none⟩ = some (.int .i64 (A k).k) ∧ w'.cell? ⟨g, o + k * 10 + 7, none⟩ = some (.int .i64 (A k).n) ∧ w'.cell? ⟨g, o + k * 10 + 8, none⟩ = some (.int .i64 (A k).c)) := fun w' f =>
            ⟨cell_keep f HR.out.1.cells.1 (fun h => h), cell_keep f HR.out.1.cells.2.1 (fun h => h), cell_keep f (ak 6 (by omega)) (fun h => h), cell_keep f (ak 7 (by omega)) (fun h => h), cell_keep f (ak 8 (by omega)) (fun h => h)⟩
          have i1 : 0 ≤ (k : Int) ∧ (k : Int) < (len : Int) := by omega
          have uk1 : decide ((k : Int) < (len : Int)) = true := decide_eq_true (by omega)
          have uk2 : decide ((k : Int) < 100) = true := decide_eq_true (by omega)
          have PD := HQ.out.keep0 (Fr.refl none' _).drew
          have HY : Hid (okR ⟨x.f, x.n, m, x.d⟩ = true) := okR_iff.2 ⟨hg.1, hg.2.1, hg.2.2.1, hm0, hm1⟩
          clear ak hFr
          generalize (A k).k = kk at *
          generalize (A k).n = nn at *
          generalize (A k).c = cc at *
          obtain ⟨d0, d1, c6, c7, c8⟩ := HS.out wr HQ.out.old
          go_wp2_with fail
          go_region_held3 (fun w' => w'.cell? ⟨w.heap.size, 0, none⟩ = some (.int .i64 x.f) ∧ w'.cell? ⟨g, o + k * 10 + 6, none⟩ = some (.int .i64 kk) ∧ w'.cell? ⟨g, o + k * 10 + 7, none⟩ = some (.int .i64 nn) ∧ w'.cell? ⟨g, o + k * 10 + 8, none⟩ = some (.int .i64 cc)) (first | with_reducible exact ⟨d0, c6, c7, c8⟩ | with_reducible exact ⟨x0, x2, x3, x4⟩ | go_keep) (first | (go_at_call 21; refine (pcarve PD x.f kk nn cc hxf).mono ?_; rintro e w4 ⟨rfl, Q, _⟩; obtain ⟨x0, x1, x2, x3, x4⟩ := HS.out w4 Q.old))
          clear d0 d1 c6 c7 c8 PD HQ x0 x1 x2 x3 x4
          by_cases hE : rooE [⟨x.f, x.n, m, x.d⟩] x.f kk nn cc = 0
          · obtain ⟨a, e1, e2, e3, e4, e5, e6, e7, e8, e9, e10, e11⟩ := carve_one (y := ⟨x.f, x.n, m, x.d⟩) HY.out hE
            dsimp only at e1 e7 e9 e10 e11
            rw [hE, e1]
            rw [e10] at Q
            have h11 := okR_iff.1 e11
            dsimp only at h11
            clear e1 e10 e11 hE HY
            obtain ⟨d0, d1, c6, c7, c8⟩ := HS.out w4 Q.old
            have S := fun W => usize_any kk nn W
            rw [e2, e3] at S
            go_wp2_with fail
            go_quiet (first | (go_at_call 18; refine Calls.quiet_of_same (S _)))
            clear d0 d1 c6 c7 c8 S
            replace Q := Q.keep0 (fr_drewN _ nq)
            generalize w4.drewN nq = v6 at *
            obtain ⟨d0, d1, c6, c7, c8⟩ := HS.out v6 Q.old
            go_wp2_with fail
            refine (pget Q x.f hxf).mono ?_
            rintro e v7 ⟨rfl, f7⟩
            rw [getC_one (⟨x.f, x.n, a + cc * nn - x.f, x.d⟩ : Rg), getE_one (⟨x.f, x.n, a + cc * nn - x.f, x.d⟩ : Rg)]
            replace Q := Q.keep0 f7
            have z := row_alloc v7 (rgA ⟨x.f, x.n, a + cc * nn - x.f, x.d⟩) 39
            replace Q := Q.keep0 ((Fr.refl none' v7).alloc (.cells (rgA ⟨x.f, x.n, a + cc * nn - x.f, x.d⟩) 39))
            dsimp only [rgA] at Q z
            clear d0 d1 c6 c7 c8 f7
            go_wp2_with fail
            obtain ⟨d0, d1, c6, c7, c8⟩ := HS.out _ Q.old
            have z0 : (v7.alloc (.cells #[.int .i64 x.f, .int .i64 x.n, .int .i64 (a + cc * nn - x.f), .bool x.d] 39)).cell? ⟨v7.heap.size, 0, none⟩ = some (.int .i64 x.f) := z.cell 0
            have z2 : (v7.alloc (.cells #[.int .i64 x.f, .int .i64 x.n, .int .i64 (a + cc * nn - x.f), .bool x.d] 39)).cell? ⟨v7.heap.size, 2, none⟩ = some (.int .i64 (a + cc * nn - x.f)) := z.cell 2
            generalize hgz : v7.heap.size = gz at *
            clear hgz z
            generalize v7.alloc (.cells #[.int .i64 x.f, .int .i64 x.n, .int .i64 (a + cc * nn - x.f), .bool x.d] 39) = v8 at *
            have n0 : nn ≠ 0 := by omega
            have g1 : decide (nn < 1) = false := decide_eq_false (by omega)
            have g2 : decide (a < x.f + m) = false := decide_eq_false (by omega)
            have g3 : decide (x.f + x.n < a + cc * nn) = false := decide_eq_false (by omega)
            have u1 : IntKind.i64.wrap (cc * nn) = cc * nn := w64 (by omega) (by omega)
            have u2 : IntKind.i64.wrap (a + cc * nn) = a + cc * nn := w64 (by omega) (by omega)
            have u3 : IntKind.i64.wrap (x.f + (a + cc * nn - x.f)) = a + cc * nn := by rw [show x.f + (a + cc * nn - x.f) = a + cc * nn by omega]; exact u2
            have HQ : Hid (Po w1 v8 b [⟨x.f, x.n, a + cc * nn - x.f, x.d⟩] (fun _ => False)) := Q
            have HZ : Hid (0 ≤ a + cc * nn - x.f ∧ a + cc * nn - x.f ≤ x.n ∧ x.f + (a + cc * nn - x.f) = a + cc * nn) := ⟨by omega, by omega, by omega⟩
            clear e4 e5 e7 e8 e9 h11 Q
            go_quiet (fail)
            clear d0 d1 c6 c7 c8 z0 z2
            have HQ2 : Hid (Po w1 (v8.drewN nq) b [⟨x.f, x.n, a + cc * nn - x.f, x.d⟩] (fun _ => False)) := HQ.out.keep0 (fr_drewN _ nq)
            generalize v8.drewN nq = v9 at *
            obtain ⟨d0, d1, c6, c7, c8⟩ := HS.out _ HQ2.out.old
            go_wp2_with fail
            go_roundw
            case rel =>
              obtain ⟨q1, q2, q3⟩ := HZ.out
              exact ⟨k + 1, a + cc * nn - x.f, by omega, by omega, by go_num, by rw [q3], q1, q2, HQ2⟩
            case measure => simp [intOf]; omega
          · rw [carve_not (y := ⟨x.f, x.n, m, x.d⟩) hE] at Q
            generalize rooE [⟨x.f, x.n, m, x.d⟩] x.f kk nn cc = E at *
            generalize rooV [⟨x.f, x.n, m, x.d⟩] x.f kk nn cc = V at *
            have hE' : (E == 0) = false := by simpa using hE
            have HP : Hid (Po w1 w4 b [⟨x.f, x.n, m, x.d⟩] (fun _ => False)) := Q
            clear Q HS HY
            go_wp2_with fail
            go_roundw
            case rel => exact ⟨k + 1, m, by omega, by omega, by go_num, rfl, hm0, hm1, HP⟩
            case measure => simp [intOf]; omega
        · obtain rfl : k = 100 := by omega
          have uk1 : decide (((100 : Nat) : Int) < (len : Int)) = true := decide_eq_true (by omega)
          have uk1' : decide ((100 : Int) < (len : Int)) = true := decide_eq_true (by omega)
          have HB : Hid (Below w.heap.size w wr) := hFr.below (Nat.le_refl _) (fun _ h => h.elim)
          clear hFr
          go_wp2_with fail
          go_ret
          exact ⟨rfl, HB.out⟩
      · obtain rfl : k = len := by omega
        have uk1 : decide ((k : Int) < (k : Int)) = false := decide_eq_false (by omega)
        have HB : Hid (Below w.heap.size w wr) := hFr.below (Nat.le_refl _) (fun _ h => h.elim)
        clear hFr
        go_wp2_with fail
        go_ret
        exact ⟨rfl, HB.out⟩

end Go.Proofs.Ytcmhndkbcfpbbaa
