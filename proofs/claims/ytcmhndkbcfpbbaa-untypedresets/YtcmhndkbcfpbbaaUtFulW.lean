/-
  The law UntypedFull walked. No statement is proved here.
-/
import Derived.Test.YtcmhndkbcfpbbaaUtAwake
import Derived.Test.YtcmhndkbcfpbbaaUtOpen
namespace Go.Proofs.Ytcmhndkbcfpbbaa
open Go.RowKit

def atM (x : Rg) (k : Nat) : Rg := ⟨x.f, x.n, x.m + k, x.d⟩
theorem atM_zero (x : Rg) : atM x 0 = x := by
  obtain ⟨a, b, c, d⟩ := x
  simp [atM]
theorem fnd_one (x : Rg) : fnd [x] x.f = some x := by unfold fnd; rw [if_pos rfl]
theorem setM_one (x : Rg) (m : Int) : setM [x] x.f m = [⟨x.f, x.n, m, x.d⟩] := by simp [setM]
theorem upTo_one (n : Int) : upTo n 1 = n := by unfold upTo; omega
theorem addE_one {x : Rg} (h : okR x = true) : addE [] x = 0 ∧ addS [] x = [x] := by
  have e : addE [] x = 0 := by unfold addE; rw [h]; rfl
  exact ⟨e, by unfold addS; rw [if_pos e]; rfl⟩
theorem addE_not {x : Rg} (h : okR x = false) : addE [] x = 1 := by unfold addE; rw [h]; rfl

theorem full_dev {x : Rg} {kd : Int} {k : Nat} (h1 : 2 ≤ kd) (h2 : kd ≤ 8) (hd : x.d = true) (h6 : kd ≠ 6) : rooE [atM x k] x.f kd 1 1 = 141 := by
  have hs : sizE kd 1 = 0 := by unfold sizE; rw [if_neg (by omega), if_pos ⟨h1, h2⟩]; rfl
  have hv : devB kd = false := by unfold devB; simp; omega
  have := fnd_one (atM x k)
  unfold rooE
  rw [show fnd [atM x k] x.f = some (atM x k) from this]
  show rmE _ _ _ _ = _
  unfold rmE
  rw [if_neg (fun q => q hs), if_neg (fun q => q ⟨by omega, by omega⟩), if_pos ⟨hd, hv⟩]
theorem full_end {x : Rg} {kd : Int} {k : Nat} (h1 : 2 ≤ kd) (h2 : kd ≤ 8) (hd : ¬ (x.d = true ∧ kd ≠ 6)) (he : x.m + k = x.n) : rooE [atM x k] x.f kd 1 1 = 140 := by
  have hs : sizE kd 1 = 0 := by unfold sizE; rw [if_neg (by omega), if_pos ⟨h1, h2⟩]; rfl
  have hv : ¬ ((atM x k).d = true ∧ devB kd = false) := fun ⟨a, b⟩ => hd ⟨a, by rintro rfl; cases b⟩
  have := fnd_one (atM x k)
  unfold rooE
  rw [show fnd [atM x k] x.f = some (atM x k) from this]
  show rmE _ _ _ _ = _
  unfold rmE
  rw [if_neg (fun q => q hs), if_neg (fun q => q ⟨by omega, by omega⟩), if_neg hv, upTo_one, if_pos (by show x.f + x.n < x.f + (x.m + k) + 1 * 1; omega)]
theorem full_more {x : Rg} {kd : Int} {k : Nat} (h1 : 2 ≤ kd) (h2 : kd ≤ 8) (hd : ¬ (x.d = true ∧ kd ≠ 6)) (he : x.m + k < x.n) : rooE [atM x k] x.f kd 1 1 = 0 ∧ carS [atM x k] x.f kd 1 1 = [atM x (k + 1)] := by
  have hs : sizE kd 1 = 0 := by unfold sizE; rw [if_neg (by omega), if_pos ⟨h1, h2⟩]; rfl
  have hv : ¬ ((atM x k).d = true ∧ devB kd = false) := fun ⟨a, b⟩ => hd ⟨a, by rintro rfl; cases b⟩
  have hf := fnd_one (atM x k)
  have hr : rmE (atM x k) kd 1 1 = 0 := by
    unfold rmE
    rw [if_neg (fun q => q hs), if_neg (fun q => q ⟨by omega, by omega⟩), if_neg hv, upTo_one, if_neg (by show ¬ x.f + x.n < x.f + (x.m + k) + 1 * 1; omega)]
  have e1 : rooE [atM x k] x.f kd 1 1 = 0 := by
    unfold rooE
    rw [show fnd [atM x k] x.f = some (atM x k) from hf]
    exact hr
  refine ⟨e1, ?_⟩
  obtain ⟨y, hy, _, hv'⟩ := rooE_zero e1
  rw [show fnd [atM x k] x.f = some (atM x k) from hf] at hy
  cases hy
  unfold carS
  rw [if_pos e1, hv', upTo_one]
  have := setM_one (atM x k) ((atM x k).f + (atM x k).m + 1 * 1 - x.f)
  refine this.trans ?_
  show [(⟨x.f, x.n, x.f + (x.m + k) + 1 * 1 - x.f, x.d⟩ : Rg)] = [⟨x.f, x.n, x.m + ((k + 1 : Nat) : Int), x.d⟩]
  rw [show x.f + (x.m + (k : Int)) + 1 * 1 - x.f = x.m + ((k + 1 : Nat) : Int) by omega]

set_option maxRecDepth 100000 in
set_option maxHeartbeats 2000000 in
theorem lfull_any (x : Rg) (kd : Int) (w : World) (hx : OkG x) : Calls Try.prog 7 #[rgV x, .int .i64 kd] w fun e w' => e = .returned (.bool true) ∧ Below w.heap.size w w' := by
  have r0 : RgR (w.alloc (.cells (rgA x) 39)) w.heap.size x := row_alloc w (rgA x) 39
  have f0 := (Fr.refl none' w).alloc (.cells (rgA x) 39)
  have hxf := hx.1
  clear hx
  dsimp only [rgV, rgA] at *
  go_enter Try.func7, Try.ntmps7
  go_wp2_with fail
  refine (awake_any _).mono ?_
  rintro e w1 ⟨rfl, f1⟩
  replace r0 := r0.keep f1 (fun h => h)
  replace f0 := f0.trans f1
  clear f1
  go_wp2_with fail
  refine (pnew w1).mono ?_
  rintro e w2 ⟨b, rfl, P⟩
  have r2 := r0.keep P.old (fun h => h)
  obtain ⟨d0, d1, d2, d3⟩ := r2.cells
  go_wp2_with fail
  refine (padd P x hxf).mono ?_
  rintro e w3 ⟨rfl, Q, _⟩
  clear d0 d1 d2 d3 r2 P
  cases ho : okR x with
  | false =>
    rw [addE_not ho]
    have HB : Hid (Below w.heap.size w w3) := (f0.trans Q.old).below (Nat.le_refl _) (fun _ h => h.elim)
    clear Q f0 r0 ho
    go_wp2_with fail
    go_ret
    exact ⟨rfl, HB.out⟩
  | true =>
    obtain ⟨e1, e2⟩ := addE_one ho
    rw [e1]
    rw [e2] at Q
    have hg := okR_iff.1 ho
    clear e1 e2 ho
    have HB : Hid (Below w.heap.size w w3) := (f0.trans Q.old).below (Nat.le_refl _) (fun _ h => h.elim)
    by_cases h1 : kd < 2
    · clear Q f0 r0
      go_wp2_with fail
      go_ret
      exact ⟨rfl, HB.out⟩
    · by_cases h2 : 8 < kd
      · clear Q f0 r0
        go_wp2_with fail
        go_ret
        exact ⟨rfl, HB.out⟩
      · clear HB
        have HP : Hid (Po w1 w3 b [atM x 0] (fun _ => False)) := by rw [atM_zero]; exact Q
        have HR : Hid (RgR w1 w.heap.size x ∧ ∀ w', Fr none' w1 w' → Below w.heap.size w w') := ⟨r0, fun w' f => (f0.trans f).below (Nat.le_refl _) (fun _ h => h.elim)⟩
        clear Q r0 f0
        go_wp2_with fail
        go_loopw [8] (fun i wr => ∃ k : Nat, i = .int .i64 (k : Int) ∧ x.m + k ≤ x.n ∧ (x.d = true ∧ kd ≠ 6 → k = 0) ∧ Hid (Po w1 wr b [atM x k] (fun _ => False))) (fun i _ => 1025 - (intOf i).toNat)
        case atStart => exact ⟨0, rfl, by omega, fun _ => rfl, HP⟩
        case round =>
          obtain ⟨k, rfl, hk, hd0, HQ⟩ := hrel
          clear HP
          have hk1 : (k : Int) ≤ 1024 := by omega
          have r1 := HR.out.1.keep HQ.out.old (fun h => h)
          obtain ⟨d0, d1, d2, d3⟩ := r1.cells
          clear r1
          go_wp2_with fail
          refine (pcarve HQ.out x.f kd 1 1 hxf).mono ?_
          rintro e w4 ⟨rfl, Q, _⟩
          have HE : Hid (Below w.heap.size w w4) := HR.out.2 w4 Q.old
          have r1 := HR.out.1.keep Q.old (fun h => h)
          clear d0 d1 d2 d3
          obtain ⟨d0, d1, d2, d3⟩ := r1.cells
          clear r1 HQ
          generalize rooV [atM x k] x.f kd 1 1 = at0
          by_cases hd : x.d = true ∧ kd ≠ 6
          · obtain rfl : k = 0 := hd0 hd
            rw [full_dev (by omega) (by omega) hd.1 hd.2]
            obtain ⟨hd1, hd2⟩ := hd
            rw [hd1] at d3
            have hd3 : (kd == 6) = false := by simpa using hd2
            clear Q hd0
            go_wp2_with fail
            go_ret
            exact ⟨rfl, HE.out⟩
          · by_cases he : x.m + k = x.n
            · rw [full_end (by omega) (by omega) hd he]
              have w5 : IntKind.i64.wrap (x.n - x.m) = x.n - x.m := w64 (by omega) (by omega)
              have w5' : wrap64 (x.n - x.m) = x.n - x.m := w64' (by omega) (by omega)
              have e7 : ((k : Int) == x.n - x.m) = true := by simp; omega
              clear Q hd0
              cases hx : x.d with
              | false =>
                rw [hx] at d3
                go_wp2_with fail
                go_ret
                exact ⟨by first | rfl | simp, HE.out⟩
              | true =>
                rw [hx] at d3
                obtain rfl : kd = 6 := Classical.not_not.1 (fun h => hd ⟨hx, h⟩)
                clear hd
                go_wp2_with fail
                go_ret
                exact ⟨by first | rfl | simp, HE.out⟩
            · have hm := full_more (k := k) (by omega) (by omega) hd (by omega)
              rw [hm.1]
              rw [hm.2] at Q
              have HQ : Hid (Po w1 w4 b [atM x (k + 1)] (fun _ => False)) := Q
              have HD : Hid (x.d = true ∧ kd ≠ 6 → k + 1 = 0) := fun h => absurd h hd
              clear Q hd0 hm hd
              go_wp2_with fail
              go_roundw
              case rel => exact ⟨k + 1, by go_num, by omega, HD.out, HQ⟩
              case measure => simp [intOf]; omega

end Go.Proofs.Ytcmhndkbcfpbbaa
