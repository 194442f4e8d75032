/-
  Contracts of package untyped's Room and Carve over the translation. No statement is proved here.
-/
import Derived.Test.YtcmhndkbcfpbbaaUtSize
namespace Go.Proofs.Ytcmhndkbcfpbbaa
open Go.RowKit Go.Maps Go.WideMaps

set_option maxRecDepth 100000 in
set_option maxHeartbeats 1000000 in
theorem room_none (w : World) (p : Pb) (L : List Rg) (h : IsP w p L) (f k n c : Int) (hk : I64 f) (hf : fnd L f = none) : Calls Try.prog 25 #[.pointer (some ⟨p.b, 0, none⟩), .int .i64 f, .int .i64 k, .int .i64 n, .int .i64 c] w fun e w' => e = .returned (.tuple #[.int .i64 0, .int .i64 131]) ∧ Fr none' w w' := by
  have c0 := h.cell
  have hL := h.map.look_none hk (map_none hf)
  clear h hk hf
  go_enter Try.func25, Try.ntmps25
  go_wp2
  go_ret2
  exact ⟨rfl, Fr.refl _ _⟩

set_option maxRecDepth 100000 in
set_option maxHeartbeats 1000000 in
theorem room_size (w : World) (p : Pb) (L : List Rg) (h : IsP w p L) (f k n c : Int) (hk : I64 f) (x : Rg) (hf : fnd L f = some x) (E : Int) (hE : sizE k n = E) (hz : E ≠ 0) : Calls Try.prog 25 #[.pointer (some ⟨p.b, 0, none⟩), .int .i64 f, .int .i64 k, .int .i64 n, .int .i64 c] w fun e w' => e = .returned (.tuple #[.int .i64 0, .int .i64 E]) ∧ Fr none' w w' := by
  have c0 := h.cell
  have hL := h.map.look_some hk (map_some hf)
  have R := fun W => usize_any k n W
  rw [hE] at R
  clear h hk hf hE
  go_enter Try.func25, Try.ntmps25
  go_wp2_with (go_at_call 18; refine (R _).mono ?_; rintro e w1 ⟨rfl, rfl⟩)
  go_ret2
  exact ⟨rfl, Fr.refl _ _⟩

set_option maxRecDepth 100000 in
set_option maxHeartbeats 1000000 in
theorem room_count (w : World) (p : Pb) (L : List Rg) (h : IsP w p L) (f k n c : Int) (hk : I64 f) (x : Rg) (hf : fnd L f = some x) (hE : sizE k n = 0) (hz : (decide (1 ≤ c) && decide (c ≤ 8)) = false) : Calls Try.prog 25 #[.pointer (some ⟨p.b, 0, none⟩), .int .i64 f, .int .i64 k, .int .i64 n, .int .i64 c] w fun e w' => e = .returned (.tuple #[.int .i64 0, .int .i64 1]) ∧ Fr none' w w' := by
  have c0 := h.cell
  have hL := h.map.look_some hk (map_some hf)
  have R := fun W => usize_any k n W
  rw [hE] at R
  have W := fun W => uwithin_any c 1 8 W
  rw [hz] at W
  clear h hk hf hE hz
  go_enter Try.func25, Try.ntmps25
  go_wp2_with (first | (go_at_call 18; refine (R _).mono ?_; rintro e w1 ⟨rfl, rfl⟩) | (go_at_call 43; refine (W _).mono ?_; rintro e w1 ⟨rfl, rfl⟩))
  go_ret2
  exact ⟨rfl, Fr.refl _ _⟩

set_option maxRecDepth 100000 in
set_option maxHeartbeats 1000000 in
theorem room_dev (w : World) (p : Pb) (L : List Rg) (h : IsP w p L) (f k n c : Int) (hk : I64 f) (x : Rg) (hf : fnd L f = some x) (hE : sizE k n = 0) (hz : (decide (1 ≤ c) && decide (c ≤ 8)) = true) (hd : x.d = true) (hv : devB k = false) : Calls Try.prog 25 #[.pointer (some ⟨p.b, 0, none⟩), .int .i64 f, .int .i64 k, .int .i64 n, .int .i64 c] w fun e w' => e = .returned (.tuple #[.int .i64 0, .int .i64 141]) ∧ Fr none' w w' := by
  have c0 := h.cell
  have hL := h.map.look_some hk (map_some hf)
  obtain ⟨d0, d1, d2, d3⟩ := (h.rg x (fnd_mem hf).1).cells
  have R := fun W => usize_any k n W
  rw [hE] at R
  have W := fun W => uwithin_any c 1 8 W
  rw [hz] at W
  have V := fun W => dev_any k W
  rw [hv] at V
  rw [hd] at d3
  clear h hk hf hE hz hd hv
  generalize p.B x.f = g at *
  go_enter Try.func25, Try.ntmps25
  go_wp2_with (first | (go_at_call 18; refine (R _).mono ?_; rintro e w1 ⟨rfl, rfl⟩) | (go_at_call 43; refine (W _).mono ?_; rintro e w1 ⟨rfl, rfl⟩) | (go_at_call 44; refine (V _).mono ?_; rintro e w1 ⟨rfl, rfl⟩))
  go_ret2
  exact ⟨rfl, Fr.refl _ _⟩

/-- The rest, where a device's is, or is not, asked for its kinds. -/
theorem mul_small {c n : Int} (h1 : 1 ≤ c) (h2 : c ≤ 8) (h3 : 1 ≤ n) (h4 : n ≤ 512) : 1 ≤ c * n ∧ c * n ≤ 4096 := by
  have a := Int.mul_le_mul h1 h3 (by omega) (by omega)
  have b := Int.mul_le_mul h2 h4 (by omega) (by omega)
  omega

set_option maxRecDepth 100000 in
set_option maxHeartbeats 2000000 in
theorem room_rest_a (w : World) (p : Pb) (L : List Rg) (h : IsP w p L) (f k n c : Int) (hk : I64 f) (x : Rg) (hf : fnd L f = some x) (hE : sizE k n = 0) (hz : (decide (1 ≤ c) && decide (c ≤ 8)) = true) (hd : x.d = false)
    (a : Int) (ha : upTo (x.f + x.m) n = a) (A B : Int) (hB : if x.f + x.n < a + c * n then A = 0 ∧ B = 140 else A = a ∧ B = 0) : Calls Try.prog 25 #[.pointer (some ⟨p.b, 0, none⟩), .int .i64 f, .int .i64 k, .int .i64 n, .int .i64 c] w fun e w' => e = .returned (.tuple #[.int .i64 A, .int .i64 B]) ∧ Fr none' w w' := by
  have c0 := h.cell
  have hL := h.map.look_some hk (map_some hf)
  have hg := h.good.ok hf
  obtain ⟨d0, d1, d2, d3⟩ := (h.rg x (fnd_mem hf).1).cells
  have R := fun W => usize_any k n W
  have hv0 : sizV k n = n := if_pos hE
  rw [hE, hv0] at R
  have W := fun W => uwithin_any c 1 8 W
  rw [hz] at W
  rw [hd] at d3
  have hs := sizE_zero hE
  have hm := mul_small (c := c) (n := n) (by simp at hz; exact hz.1) (by simp at hz; exact hz.2) hs.1 hs.2.1
  have hu := upTo_le (n := x.f + x.m) hs.1
  rw [ha] at hu
  have M := fun W => above_any (x.f + x.m) n (by omega) (by omega) hs.1 hs.2.1 W
  rw [ha] at M
  generalize p.B x.f = g at *
  obtain ⟨xf, xn, xm, xd⟩ := x
  dsimp only at *
  have w1 : IntKind.i64.wrap (xf + xm) = xf + xm := w64 (by omega) (by omega)
  have w2 : IntKind.i64.wrap (c * n) = c * n := w64 (by omega) (by omega)
  have w3 : IntKind.i64.wrap (a + c * n) = a + c * n := w64 (by omega) (by omega)
  have w4 : IntKind.i64.wrap (xf + xn) = xf + xn := w64 (by omega) (by omega)
  have w1' : wrap64 (xf + xm) = xf + xm := w64' (by omega) (by omega)
  have w2' : wrap64 (c * n) = c * n := w64' (by omega) (by omega)
  have w3' : wrap64 (a + c * n) = a + c * n := w64' (by omega) (by omega)
  have w4' : wrap64 (xf + xn) = xf + xn := w64' (by omega) (by omega)
  have F := fr_drewN w
  clear h hk hf hE hz hd hv0 hs hu ha hg hm
  by_cases hlt : xf + xn < a + c * n
  · rw [if_pos hlt] at hB
    obtain ⟨rfl, rfl⟩ := hB
    go_enter Try.func25, Try.ntmps25
    go_wp2_with (first | (go_at_call 18; refine (R _).mono ?_; rintro e w1 ⟨rfl, rfl⟩) | (go_at_call 43; refine (W _).mono ?_; rintro e w1 ⟨rfl, rfl⟩))
    go_quiet (first | (go_at_call 45; refine Calls.quiet_of_same (M _)))
    go_wp2_with fail
    go_quiet (fail)
    go_wp2_with fail
    go_ret2
    exact ⟨rfl, (F _).trans (fr_drewN _ _)⟩
  · rw [if_neg hlt] at hB
    obtain ⟨rfl, rfl⟩ := hB
    go_enter Try.func25, Try.ntmps25
    go_wp2_with (first | (go_at_call 18; refine (R _).mono ?_; rintro e w1 ⟨rfl, rfl⟩) | (go_at_call 43; refine (W _).mono ?_; rintro e w1 ⟨rfl, rfl⟩))
    go_quiet (first | (go_at_call 45; refine Calls.quiet_of_same (M _)))
    go_wp2_with fail
    go_quiet (fail)
    go_wp2_with fail
    go_ret2
    exact ⟨rfl, (F _).trans (fr_drewN _ _)⟩

set_option maxRecDepth 100000 in
set_option maxHeartbeats 2000000 in
theorem room_rest_b (w : World) (p : Pb) (L : List Rg) (h : IsP w p L) (f k n c : Int) (hk : I64 f) (x : Rg) (hf : fnd L f = some x) (hE : sizE k n = 0) (hz : (decide (1 ≤ c) && decide (c ≤ 8)) = true) (hd : x.d = true) (hv : devB k = true)
    (a : Int) (ha : upTo (x.f + x.m) n = a) (A B : Int) (hB : if x.f + x.n < a + c * n then A = 0 ∧ B = 140 else A = a ∧ B = 0) : Calls Try.prog 25 #[.pointer (some ⟨p.b, 0, none⟩), .int .i64 f, .int .i64 k, .int .i64 n, .int .i64 c] w fun e w' => e = .returned (.tuple #[.int .i64 A, .int .i64 B]) ∧ Fr none' w w' := by
  have c0 := h.cell
  have hL := h.map.look_some hk (map_some hf)
  have hg := h.good.ok hf
  obtain ⟨d0, d1, d2, d3⟩ := (h.rg x (fnd_mem hf).1).cells
  have R := fun W => usize_any k n W
  have hv0 : sizV k n = n := if_pos hE
  rw [hE, hv0] at R
  have W := fun W => uwithin_any c 1 8 W
  rw [hz] at W
  have V := fun W => dev_any k W
  rw [hv] at V
  rw [hd] at d3
  have hs := sizE_zero hE
  have hm := mul_small (c := c) (n := n) (by simp at hz; exact hz.1) (by simp at hz; exact hz.2) hs.1 hs.2.1
  have hu := upTo_le (n := x.f + x.m) hs.1
  rw [ha] at hu
  have M := fun W => above_any (x.f + x.m) n (by omega) (by omega) hs.1 hs.2.1 W
  rw [ha] at M
  generalize p.B x.f = g at *
  obtain ⟨xf, xn, xm, xd⟩ := x
  dsimp only at *
  have w1 : IntKind.i64.wrap (xf + xm) = xf + xm := w64 (by omega) (by omega)
  have w2 : IntKind.i64.wrap (c * n) = c * n := w64 (by omega) (by omega)
  have w3 : IntKind.i64.wrap (a + c * n) = a + c * n := w64 (by omega) (by omega)
  have w4 : IntKind.i64.wrap (xf + xn) = xf + xn := w64 (by omega) (by omega)
  have w1' : wrap64 (xf + xm) = xf + xm := w64' (by omega) (by omega)
  have w2' : wrap64 (c * n) = c * n := w64' (by omega) (by omega)
  have w3' : wrap64 (a + c * n) = a + c * n := w64' (by omega) (by omega)
  have w4' : wrap64 (xf + xn) = xf + xn := w64' (by omega) (by omega)
  have F := fr_drewN w
  clear h hk hf hE hz hd hv hv0 hs hu ha hg hm
  by_cases hlt : xf + xn < a + c * n
  · rw [if_pos hlt] at hB
    obtain ⟨rfl, rfl⟩ := hB
    go_enter Try.func25, Try.ntmps25
    go_wp2_with (first | (go_at_call 18; refine (R _).mono ?_; rintro e w1 ⟨rfl, rfl⟩) | (go_at_call 43; refine (W _).mono ?_; rintro e w1 ⟨rfl, rfl⟩) | (go_at_call 44; refine (V _).mono ?_; rintro e w1 ⟨rfl, rfl⟩))
    go_quiet (first | (go_at_call 45; refine Calls.quiet_of_same (M _)))
    go_wp2_with fail
    go_quiet (fail)
    go_wp2_with fail
    go_ret2
    exact ⟨rfl, (F _).trans (fr_drewN _ _)⟩
  · rw [if_neg hlt] at hB
    obtain ⟨rfl, rfl⟩ := hB
    go_enter Try.func25, Try.ntmps25
    go_wp2_with (first | (go_at_call 18; refine (R _).mono ?_; rintro e w1 ⟨rfl, rfl⟩) | (go_at_call 43; refine (W _).mono ?_; rintro e w1 ⟨rfl, rfl⟩) | (go_at_call 44; refine (V _).mono ?_; rintro e w1 ⟨rfl, rfl⟩))
    go_quiet (first | (go_at_call 45; refine Calls.quiet_of_same (M _)))
    go_wp2_with fail
    go_quiet (fail)
    go_wp2_with fail
    go_ret2
    exact ⟨rfl, (F _).trans (fr_drewN _ _)⟩

theorem room_any (w : World) (p : Pb) (L : List Rg) (h : IsP w p L) (f k n c : Int) (hk : I64 f) : Calls Try.prog 25 #[.pointer (some ⟨p.b, 0, none⟩), .int .i64 f, .int .i64 k, .int .i64 n, .int .i64 c] w fun e w' => e = .returned (.tuple #[.int .i64 (rooV L f k n c), .int .i64 (rooE L f k n c)]) ∧ Fr none' w w' := by
  unfold rooV rooE
  cases hf : fnd L f with
  | none => exact room_none w p L h f k n c hk hf
  | some x =>
    dsimp only
    by_cases hE : sizE k n = 0
    · by_cases hc : 1 ≤ c ∧ c ≤ 8
      · have hz : (decide (1 ≤ c) && decide (c ≤ 8)) = true := by simp; exact hc
        by_cases hd : x.d = true ∧ devB k = false
        · have hr : rmE x k n c = 141 := by unfold rmE; rw [if_neg (fun q => q hE), if_neg (fun q => q hc), if_pos hd]
          rw [hr]
          exact room_dev w p L h f k n c hk x hf hE hz hd.1 hd.2
        · have hr : rmE x k n c = if x.f + x.n < upTo (x.f + x.m) n + c * n then 140 else 0 := by unfold rmE; rw [if_neg (fun q => q hE), if_neg (fun q => q hc), if_neg hd]
          have hq : if x.f + x.n < upTo (x.f + x.m) n + c * n then (if rmE x k n c = 0 then upTo (x.f + x.m) n else 0) = 0 ∧ rmE x k n c = 140 else (if rmE x k n c = 0 then upTo (x.f + x.m) n else 0) = upTo (x.f + x.m) n ∧ rmE x k n c = 0 := by
            rw [hr]
            by_cases hl : x.f + x.n < upTo (x.f + x.m) n + c * n
            · simp [hl]
            · simp [hl]
          cases hx : x.d with
          | false => exact room_rest_a w p L h f k n c hk x hf hE hz hx _ rfl _ _ hq
          | true =>
            refine room_rest_b w p L h f k n c hk x hf hE hz hx ?_ _ rfl _ _ hq
            cases hv : devB k with
            | true => rfl
            | false => exact absurd ⟨hx, hv⟩ hd
      · have hz : (decide (1 ≤ c) && decide (c ≤ 8)) = false := by
          cases q : (decide (1 ≤ c) && decide (c ≤ 8)) with
          | false => rfl
          | true => exact absurd (by simpa using q) hc
        have hr : rmE x k n c = 1 := by unfold rmE; rw [if_neg (fun q => q hE), if_pos hc]
        rw [hr]
        exact room_count w p L h f k n c hk x hf hE hz
    · have hr : rmE x k n c = sizE k n := by unfold rmE; rw [if_pos hE]
      rw [hr, if_neg hE]
      exact room_size w p L h f k n c hk x hf _ rfl hE

set_option maxRecDepth 100000 in
set_option maxHeartbeats 1000000 in
theorem carve_any (w : World) (p : Pb) (L : List Rg) (h : IsP w p L) (f k n c : Int) (hk : I64 f) : Calls Try.prog 21 #[.pointer (some ⟨p.b, 0, none⟩), .int .i64 f, .int .i64 k, .int .i64 n, .int .i64 c] w fun e w' => e = .returned (.tuple #[.int .i64 (rooV L f k n c), .int .i64 (rooE L f k n c)]) ∧ Chg w p L w' (carS L f k n c) := by
  have R := room_any w p L h f k n c hk
  by_cases hE : rooE L f k n c = 0
  · have e1 : carS L f k n c = setM L f (rooV L f k n c + c * n - f) := if_pos hE
    obtain ⟨x, hf, hr, hv⟩ := rooE_zero hE
    rw [e1, hE]
    rw [hE] at R
    have hq := carve_ok (h.good.ok hf) hr
    have ef := (fnd_mem hf).2
    have hg := h.good.ok hf
    have hz := rmE_zero hr
    have hs := sizE_zero hz.1
    have hm := mul_small hz.2.1.1 hz.2.1.2 hs.1 hs.2.1
    rw [← hv, ef] at hq
    have HK : Hid (∀ w', Fr none' w w' → IsP w' p L ∧ Chg w p L (w'.setCell ⟨p.B x.f, 2, none⟩ (.int .i64 (rooV L f k n c + c * n - f))) (setM L f (rooV L f k n c + c * n - f))) := fun w' fr => ⟨h.keep0 fr, Chg.mark (h.keep0 fr) fr hf (by omega)⟩
    generalize rooV L f k n c = a at *
    have b1 := hq.2.1
    have w2 : IntKind.i64.wrap (c * n) = c * n := w64 (by omega) (by omega)
    have w3 : IntKind.i64.wrap (a + c * n) = a + c * n := w64 (by omega) (by omega)
    have w4 : IntKind.i64.wrap (a + c * n - f) = a + c * n - f := w64 (by omega) (by omega)
    have w2' : wrap64 (c * n) = c * n := w64' (by omega) (by omega)
    have w3' : wrap64 (a + c * n) = a + c * n := w64' (by omega) (by omega)
    have w4' : wrap64 (a + c * n - f) = a + c * n - f := w64' (by omega) (by omega)
    have hm0 := map_some (p := p) hf
    have hmem := (fnd_mem hf).1
    clear h e1 hE hr hv hq ef hg hz hs hm b1 hf
    go_enter Try.func21, Try.ntmps21
    go_wp2_with fail
    refine R.mono ?_
    rintro e w1 ⟨rfl, f1⟩
    clear R
    obtain ⟨h1, hc⟩ := HK.out _ f1
    have HC : Hid (Chg w p L (w1.setCell ⟨p.B x.f, 2, none⟩ (.int .i64 (a + c * n - f))) (setM L f (a + c * n - f))) := hc
    have c0 := h1.cell
    have hL := h1.map.look0_some hk hm0
    obtain ⟨d0, d1, d2, d3⟩ := (h1.rg x hmem).cells
    have z2 := (h1.rg x hmem).frozen 2
    clear hc h1 hm0 hmem f1 HK
    generalize p.B x.f = g at *
    go_wp2_with fail
    go_ret2
    exact ⟨rfl, HC.out⟩
  · have e1 : carS L f k n c = L := if_neg hE
    have e2 := rooV_bad hE
    rw [e1, e2]
    rw [e2] at R
    generalize rooE L f k n c = E at *
    have HK : Hid (∀ w', Fr none' w w' → Chg w p L w' L) := fun w' fr => Chg.same h fr
    clear h e1 e2
    go_enter Try.func21, Try.ntmps21
    go_wp2_with (go_at_call 25; refine R.mono ?_; rintro e w1 ⟨rfl, f1⟩)
    go_ret2
    exact ⟨rfl, HK.out _ f1⟩

end Go.Proofs.Ytcmhndkbcfpbbaa
