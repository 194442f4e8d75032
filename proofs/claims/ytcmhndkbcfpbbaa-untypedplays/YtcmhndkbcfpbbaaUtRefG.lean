/-
  Contracts of the document's may, Get, Room and Carve over the translation. No statement is proved here.
-/
import Derived.Test.YtcmhndkbcfpbbaaUtRef
import Derived.Test.YtcmhndkbcfpbbaaUtRefSz
namespace Go.Proofs.Ytcmhndkbcfpbbaa
open Go.RowKit

set_option maxHeartbeats 1000000 in
theorem rmay_any (x : Rg) (w : World) : Calls Try.prog 46 #[rgV x] w fun e w' => e = .returned (.bool (okR x)) ∧ Fr none' w w' := by
  obtain ⟨f, n, m, d⟩ := x
  have f0 := (Fr.refl none' w).alloc (.cells #[.int .i64 f, .int .i64 n, .int .i64 m, .bool d] 39)
  have hok := okR_iff (x := ⟨f, n, m, d⟩)
  dsimp only at hok
  have fal : ¬ (0 ≤ f ∧ 1 ≤ n ∧ n ≤ 1024 - f ∧ 0 ≤ m ∧ m ≤ n) → okR ⟨f, n, m, d⟩ = false := fun h => by
    cases q : okR ⟨f, n, m, d⟩ with
    | false => rfl
    | true => exact absurd (hok.1 q) h
  by_cases t0 : 0 ≤ f
  · skip
    by_cases t1 : f ≤ 1023
    · skip
      by_cases t2 : 1 ≤ n
      · skip
        by_cases t3 : n ≤ 1024
        · have w1 : IntKind.i64.wrap (f + n) = f + n := w64 (by omega) (by omega)
          skip
          by_cases t4 : f + n ≤ 1024
          · skip
            by_cases t5 : 0 ≤ m
            · skip
              by_cases t6 : m ≤ n
              · rw [hok.2 ⟨t0, t2, by omega, t5, t6⟩]
                clear hok fal
                go_enter Try.func46, Try.ntmps46
                go_wp2
                go_ret
                exact ⟨by first | rfl | simp, f0⟩
              · rw [fal (by omega)]
                clear hok fal
                go_enter Try.func46, Try.ntmps46
                go_wp2
                go_ret
                exact ⟨by first | rfl | simp, f0⟩
            · rw [fal (by omega)]
              clear hok fal
              go_enter Try.func46, Try.ntmps46
              go_wp2
              go_ret
              exact ⟨by first | rfl | simp, f0⟩
          · rw [fal (by omega)]
            clear hok fal
            go_enter Try.func46, Try.ntmps46
            go_wp2
            go_ret
            exact ⟨by first | rfl | simp, f0⟩
        · rw [fal (by omega)]
          clear hok fal
          go_enter Try.func46, Try.ntmps46
          go_wp2
          go_ret
          exact ⟨by first | rfl | simp, f0⟩
      · rw [fal (by omega)]
        clear hok fal
        go_enter Try.func46, Try.ntmps46
        go_wp2
        go_ret
        exact ⟨by first | rfl | simp, f0⟩
    · rw [fal (by omega)]
      clear hok fal
      go_enter Try.func46, Try.ntmps46
      go_wp2
      go_ret
      exact ⟨by first | rfl | simp, f0⟩
  · rw [fal (by omega)]
    clear hok fal
    go_enter Try.func46, Try.ntmps46
    go_wp2
    go_ret
    exact ⟨by first | rfl | simp, f0⟩

set_option maxRecDepth 100000 in
set_option maxHeartbeats 1000000 in
theorem rget_any (w : World) (q : Qb) (L : List Rg) (h : IsQ w q L) (k : Int) : Calls Try.prog 29 #[.pointer (some ⟨q.b, 0, none⟩), .int .i64 k] w fun e w' => e = .returned (.tuple #[rgV (getC L k), .int .i64 (getE L k)]) ∧ Fr none' w w' := by
  have f0 := (Fr.refl none' w).alloc (.cells #[.int .i64 0, .int .i64 0, .int .i64 0, .bool false] 39)
  have h0 := h.keep0 f0
  have T := rat_any _ q L h0 k
  have HL : Hid (∀ k, q.s k → k < w.heap.size) := fun k hk => h.lt k hk
  have HH : Hid (IsQ (w.alloc (.cells #[.int .i64 0, .int .i64 0, .int .i64 0, .bool false] 39)) q L) := h0
  have hlen := len_le h.good
  clear h h0
  go_enter Try.func29, Try.ntmps29
  go_wp2_with fail
  refine T.mono ?_
  rintro e w1 ⟨rfl, ⟨hf, rfl⟩ | ⟨i, n, hf, hi, rfl⟩⟩
  · have r0 := row_alloc w #[.int .i64 0, .int .i64 0, .int .i64 0, .bool false] 39
    have HE : Hid (getC L k = R0 ∧ getE L k = 131) := by unfold getC getE; rw [hf]; exact ⟨rfl, rfl⟩
    clear T hf
    go_wp2_with fail
    refine bodyPost_ret (ret_reg_tmp rfl rfl r0 rfl) rfl ?_
    rw [HE.out.1, HE.out.2]
    exact ⟨rfl, f0⟩
  · obtain ⟨a, cap, hv, _, _, hn⟩ := HH.out.form
    obtain ⟨g, rfl, c0, c1, c2, c3, _⟩ := hn i n hi
    have cb := HH.out.cell
    rw [hv] at cb
    have hg : g ≠ w.heap.size := by
      have := HL.out g (Or.inr (by rw [hv]; rfl))
      omega
    have hil : i < L.length := by
      rcases Nat.lt_or_ge i L.length with h' | h'
      · exact h'
      · rw [List.getElem?_eq_none h'] at hi; cases hi
    have r0 := row_alloc w (rgA n) 39
    have f1 := (Fr.refl none' w).alloc (.cells (rgA n) 39)
    have HE : Hid (getC L k = n ∧ getE L k = 0) := by unfold getC getE; rw [hf]; exact ⟨rfl, rfl⟩
    have i1 : 0 ≤ (i : Int) ∧ (i : Int) < (L.length : Int) := by omega
    clear T hf hi hn hv f0 HH
    generalize L.length = N at *
    obtain ⟨a1, a2, a3, a4⟩ := n
    dsimp only [rgA] at *
    go_wp2_with fail
    refine bodyPost_ret (ret_reg_tmp rfl rfl r0 rfl) rfl ?_
    rw [HE.out.1, HE.out.2]
    exact ⟨rfl, f1⟩

/-! ### Room -/
theorem upTo_least {s n y : Int} (hn : 1 ≤ n) (h : s ≤ y) (hm : y % n = 0) : upTo s n ≤ y := by
  unfold upTo
  have e : y = n * (y / n) := by have := Int.mul_ediv_add_emod y n; omega
  have h1 : (s + n - 1) / n ≤ y / n := by
    have : (s + n - 1) / n ≤ (y + n - 1) / n := Int.ediv_le_ediv (by omega) (by omega)
    have h2 : (y + n - 1) / n = y / n := by
      rw [show y + n - 1 = (n - 1) + n * (y / n) by omega, Int.add_mul_ediv_left _ _ (by omega), Int.ediv_eq_zero_of_lt (by omega) (by omega)]
      omega
    omega
  have h3 := Int.mul_le_mul_of_nonneg_right h1 (show 0 ≤ n by omega)
  rw [Int.mul_comm (y / n) n, ← e] at h3
  exact h3

/-- What Room is asked with: the pool, the region's place. -/
structure RmI (w : World) (q : Qb) (L : List Rg) (f : Int) (i : Nat) (x : Rg) (g cap N : Nat) : Prop where
  cb : w.cell? ⟨q.b, 0, none⟩ = some (.slice (some ⟨g, 0, none⟩) N cap)
  c0 : w.cell? ⟨g, i * 4, none⟩ = some (.int .i64 x.f)
  c1 : w.cell? ⟨g, i * 4 + 1, none⟩ = some (.int .i64 x.n)
  c2 : w.cell? ⟨g, i * 4 + 2, none⟩ = some (.int .i64 x.m)
  c3 : w.cell? ⟨g, i * 4 + 3, none⟩ = some (.bool x.d)
  lt : i < N
  nl : N ≤ 1024
  fz : ∀ r, w.frozen? ⟨g, r, none⟩ = false
  vv : q.v = .slice (some ⟨g, 0, none⟩) L.length cap
  nn : N = L.length

theorem IsQ.rm {w : World} {q : Qb} {L : List Rg} (h : IsQ w q L) {f : Int} {i : Nat} {x : Rg} (hi : L[i]? = some x) : ∃ g cap N, RmI w q L f i x g cap N := by
  obtain ⟨a, cap, hv, _, _, hn⟩ := h.form
  obtain ⟨g, rfl, c0, c1, c2, c3, fz⟩ := hn i x hi
  have cb := h.cell
  rw [hv] at cb
  have hil : i < L.length := by
    rcases Nat.lt_or_ge i L.length with h' | h'
    · exact h'
    · rw [List.getElem?_eq_none h'] at hi; cases hi
  exact ⟨g, cap, L.length, cb, c0, c1, c2, c3, hil, len_le h.good, fz, hv, rfl⟩

set_option maxRecDepth 100000 in
set_option maxHeartbeats 2000000 in
theorem rroom_some (w : World) (q : Qb) (L : List Rg) (h : IsQ w q L) (f k n c : Int) (x : Rg) (hf : fnd L f = some x) (A E : Int) (hE : E = rmE x k n c) (hA : A = if rmE x k n c = 0 then upTo (x.f + x.m) n else 0) : Calls Try.prog 32 #[.pointer (some ⟨q.b, 0, none⟩), .int .i64 f, .int .i64 k, .int .i64 n, .int .i64 c] w fun e w' => e = .returned (.tuple #[.int .i64 A, .int .i64 E]) ∧ Fr none' w w' := by
  have T := rat_any w q L h f
  have hx := h.good.ok hf
  have R := fun W => rsize_any k n W
  have HH : Hid (IsQ w q L ∧ fnd L f = some x) := ⟨h, hf⟩
  clear h hf
  go_enter Try.func32, Try.ntmps32
  go_wp2_with fail
  refine T.mono ?_
  rintro e w1 ⟨rfl, ⟨hf, rfl⟩ | ⟨i, x', hf, hi, rfl⟩⟩
  · rw [HH.out.2] at hf; cases hf
  · rw [HH.out.2] at hf
    cases hf
    obtain ⟨g, cap, N, M⟩ := HH.out.1.rm (f := f) hi
    obtain ⟨cb, c0, c1, c2, c3, hlt, hnl, -, -, -⟩ := M
    have i1 : 0 ≤ (i : Int) ∧ (i : Int) < (N : Int) := by omega
    have fB := (Fr.refl none' w1).alloc (.cells (rgA x) 39)
    have rB := row_alloc w1 (rgA x) 39
    obtain ⟨e0, e1, e2, e3⟩ := RgR.cells rB
    clear T HH hi rB
    obtain ⟨xf, xn, xm, xd⟩ := x
    dsimp only [rgA] at *
    by_cases hs : sizE k n = 0
    · have hv : sizV k n = n := if_pos hs
      rw [hs, hv] at R
      have hz := sizE_zero hs
      by_cases hc : 1 ≤ c ∧ c ≤ 8
      · have tc1 : decide (c < 1) = false := decide_eq_false (by omega)
        have tc2 : decide (8 < c) = false := decide_eq_false (by omega)
        by_cases hd : xd = true ∧ devB k = false
        · have hr : rmE ⟨xf, xn, xm, xd⟩ k n c = 141 := by unfold rmE; rw [if_neg (fun q => q hs), if_neg (fun q => q hc), if_pos hd]
          rw [hr] at hE hA
          rw [if_neg (by decide)] at hA
          obtain ⟨rfl, hdv⟩ := hd
          have hk1 : (k == 1) = false ∧ (k == 6) = false := by unfold devB at hdv; simpa using hdv
          obtain ⟨hk1, hk6⟩ := hk1
          have hk1' : k ≠ 1 := by simpa using hk1
          have hk6' : k ≠ 6 := by simpa using hk6
          have hk1n : (k != 1) = true := by simpa using hk1'
          have hk6n : (k != 6) = true := by simpa using hk6'
          subst hE hA
          clear hr hs hv hdv hx hz
          go_wp2_with (go_at_call 19; refine (R _).mono ?_; rintro e w2 ⟨rfl, rfl⟩)
          go_ret2
          exact ⟨rfl, fB⟩
        · have hr : rmE ⟨xf, xn, xm, xd⟩ k n c = if xf + xn < upTo (xf + xm) n + c * n then 140 else 0 := by unfold rmE; rw [if_neg (fun q => q hs), if_neg (fun q => q hc), if_neg hd]
          have hm := mul_small hc.1 hc.2 hz.1 hz.2.1
          have hu := upTo_le (n := xf + xm) hz.1
          have HU : Hid (∀ y, xf + xm ≤ y → y % n = 0 → upTo (xf + xm) n ≤ y) := fun y hy hy2 => upTo_least hz.1 hy hy2
          rw [hr] at hE hA
          generalize upTo (xf + xm) n = U at *
          have w1' : IntKind.i64.wrap (xf + xm) = xf + xm := w64 (by omega) (by omega)
          have w2' : IntKind.i64.wrap (c * n) = c * n := w64 (by omega) (by omega)
          have w3' : IntKind.i64.wrap (U + c * n) = U + c * n := w64 (by omega) (by omega)
          have w4' : IntKind.i64.wrap (xf + xn) = xf + xn := w64 (by omega) (by omega)
          have HE : Hid ((xf + xn < U + c * n → A = 0 ∧ E = 140) ∧ (¬ xf + xn < U + c * n → A = U ∧ E = 0)) := ⟨fun hl => by rw [if_pos hl] at hE hA; rw [if_neg (by decide)] at hA; exact ⟨hA, hE⟩, fun hl => by rw [if_neg hl] at hE hA; rw [if_pos rfl] at hA; exact ⟨hA, hE⟩⟩
          have n0 : n ≠ 0 := by omega
          have hU1 : U % n = 0 := hu.2.2
          clear hr hs hv hE hA
          cases xd with
          | false =>
            clear hd
            go_wp2_with (go_at_call 19; refine (R _).mono ?_; rintro e w2 ⟨rfl, rfl⟩)
            go_loopw [16] (fun a wr => ∃ y : Int, a = .int .i64 y ∧ xf + xm ≤ y ∧ y ≤ U ∧ Hid (wr = w1.alloc (.cells #[.int .i64 xf, .int .i64 xn, .int .i64 xm, .bool false] 39))) (fun a _ => (U - intOf a).toNat)
            case atStart => exact ⟨xf + xm, rfl, by omega, by omega, rfl⟩
            case round =>
              obtain ⟨y, rfl, hy1, hy2, hw⟩ := hrel
              obtain rfl := hw.out
              by_cases hy : y = U
              · subst hy
                have ht : y.tmod n = 0 := by rw [Int.tmod_eq_emod_of_nonneg (by omega)]; exact hU1
                have ht2 : (y % n != 0) = false := by rw [hU1]; rfl
                by_cases hl : xf + xn < y + c * n
                · obtain ⟨rfl, rfl⟩ := HE.out.1 hl
                  go_wp2_with fail
                  go_ret2
                  exact ⟨rfl, fB⟩
                · obtain ⟨rfl, rfl⟩ := HE.out.2 (by omega)
                  go_wp2_with fail
                  go_ret2
                  exact ⟨rfl, fB⟩
              · skip
                have hty : y % n ≠ 0 := fun e => by have := HU.out y hy1 e; omega
                have ht2 : (y % n != 0) = true := by simpa using hty
                have ht3 : (y % n == 0) = false := by simpa using hty
                have ht : (y.tmod n == 0) = false := by rw [Int.tmod_eq_emod_of_nonneg (by omega)]; exact ht3
                have w5' : IntKind.i64.wrap (y + 1) = y + 1 := w64 (by omega) (by omega)
                go_wp2_with fail
                go_roundw
                case rel => exact ⟨y + 1, rfl, by omega, by omega, by first | exact rfl | exact trivial⟩
                case measure => simp [intOf]; omega
          | true =>
            by_cases hk1 : k = 1
            · subst hk1
              clear hd
              go_wp2_with (go_at_call 19; refine (R _).mono ?_; rintro e w2 ⟨rfl, rfl⟩)
              go_loopw [16] (fun a wr => ∃ y : Int, a = .int .i64 y ∧ xf + xm ≤ y ∧ y ≤ U ∧ Hid (wr = w1.alloc (.cells #[.int .i64 xf, .int .i64 xn, .int .i64 xm, .bool true] 39))) (fun a _ => (U - intOf a).toNat)
              case atStart => exact ⟨xf + xm, rfl, by omega, by omega, rfl⟩
              case round =>
                obtain ⟨y, rfl, hy1, hy2, hw⟩ := hrel
                obtain rfl := hw.out
                by_cases hy : y = U
                · subst hy
                  have ht : y.tmod n = 0 := by rw [Int.tmod_eq_emod_of_nonneg (by omega)]; exact hU1
                  have ht2 : (y % n != 0) = false := by rw [hU1]; rfl
                  by_cases hl : xf + xn < y + c * n
                  · obtain ⟨rfl, rfl⟩ := HE.out.1 hl
                    go_wp2_with fail
                    go_ret2
                    exact ⟨rfl, fB⟩
                  · obtain ⟨rfl, rfl⟩ := HE.out.2 (by omega)
                    go_wp2_with fail
                    go_ret2
                    exact ⟨rfl, fB⟩
                · skip
                  have hty : y % n ≠ 0 := fun e => by have := HU.out y hy1 e; omega
                  have ht2 : (y % n != 0) = true := by simpa using hty
                  have ht3 : (y % n == 0) = false := by simpa using hty
                  have ht : (y.tmod n == 0) = false := by rw [Int.tmod_eq_emod_of_nonneg (by omega)]; exact ht3
                  have w5' : IntKind.i64.wrap (y + 1) = y + 1 := w64 (by omega) (by omega)
                  go_wp2_with fail
                  go_roundw
                  case rel => exact ⟨y + 1, rfl, by omega, by omega, by first | exact rfl | exact trivial⟩
                  case measure => simp [intOf]; omega
            · have hk6 : k = 6 := by
                apply Classical.byContradiction
                intro h6
                exact hd ⟨rfl, by unfold devB; simp [hk1, h6]⟩
              subst hk6
              clear hd hk1
              go_wp2_with (go_at_call 19; refine (R _).mono ?_; rintro e w2 ⟨rfl, rfl⟩)
              go_loopw [16] (fun a wr => ∃ y : Int, a = .int .i64 y ∧ xf + xm ≤ y ∧ y ≤ U ∧ Hid (wr = w1.alloc (.cells #[.int .i64 xf, .int .i64 xn, .int .i64 xm, .bool true] 39))) (fun a _ => (U - intOf a).toNat)
              case atStart => exact ⟨xf + xm, rfl, by omega, by omega, rfl⟩
              case round =>
                obtain ⟨y, rfl, hy1, hy2, hw⟩ := hrel
                obtain rfl := hw.out
                by_cases hy : y = U
                · subst hy
                  have ht : y.tmod n = 0 := by rw [Int.tmod_eq_emod_of_nonneg (by omega)]; exact hU1
                  have ht2 : (y % n != 0) = false := by rw [hU1]; rfl
                  by_cases hl : xf + xn < y + c * n
                  · obtain ⟨rfl, rfl⟩ := HE.out.1 hl
                    go_wp2_with fail
                    go_ret2
                    exact ⟨rfl, fB⟩
                  · obtain ⟨rfl, rfl⟩ := HE.out.2 (by omega)
                    go_wp2_with fail
                    go_ret2
                    exact ⟨rfl, fB⟩
                · skip
                  have hty : y % n ≠ 0 := fun e => by have := HU.out y hy1 e; omega
                  have ht2 : (y % n != 0) = true := by simpa using hty
                  have ht3 : (y % n == 0) = false := by simpa using hty
                  have ht : (y.tmod n == 0) = false := by rw [Int.tmod_eq_emod_of_nonneg (by omega)]; exact ht3
                  have w5' : IntKind.i64.wrap (y + 1) = y + 1 := w64 (by omega) (by omega)
                  go_wp2_with fail
                  go_roundw
                  case rel => exact ⟨y + 1, rfl, by omega, by omega, by first | exact rfl | exact trivial⟩
                  case measure => simp [intOf]; omega
      · have hr : rmE ⟨xf, xn, xm, xd⟩ k n c = 1 := by unfold rmE; rw [if_neg (fun q => q hs), if_pos hc]
        rw [hr] at hE hA
        rw [if_neg (by decide)] at hA
        subst hE hA
        clear hr hs hv
        by_cases hc1 : c < 1
        · go_wp2_with (go_at_call 19; refine (R _).mono ?_; rintro e w2 ⟨rfl, rfl⟩)
          go_ret2
          exact ⟨rfl, fB⟩
        · have hc2 : 8 < c := by omega
          go_wp2_with (go_at_call 19; refine (R _).mono ?_; rintro e w2 ⟨rfl, rfl⟩)
          go_ret2
          exact ⟨rfl, fB⟩
    · have hr : rmE ⟨xf, xn, xm, xd⟩ k n c = sizE k n := by unfold rmE; rw [if_pos hs]
      rw [hr] at hE hA
      rw [if_neg hs] at hA
      subst hA
      rw [← hE] at R hs
      have hs' : (E == 0) = false := by simpa using hs
      clear hE hr
      go_wp2_with (go_at_call 19; refine (R _).mono ?_; rintro e w2 ⟨rfl, rfl⟩)
      go_ret2
      exact ⟨rfl, fB⟩

end Go.Proofs.Ytcmhndkbcfpbbaa
