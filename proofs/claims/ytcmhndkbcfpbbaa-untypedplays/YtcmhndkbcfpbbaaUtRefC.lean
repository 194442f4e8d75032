/-
  Contracts of the document's Room, Carve, Take and Reset over the translation. No statement is proved here.
-/
import Derived.Test.YtcmhndkbcfpbbaaUtRefG
namespace Go.Proofs.Ytcmhndkbcfpbbaa
open Go.RowKit

set_option maxRecDepth 100000 in
set_option maxHeartbeats 1000000 in
theorem rroom_any (w : World) (q : Qb) (L : List Rg) (h : IsQ w q L) (f k n c : Int) : Calls Try.prog 32 #[.pointer (some ⟨q.b, 0, none⟩), .int .i64 f, .int .i64 k, .int .i64 n, .int .i64 c] w fun e w' => e = .returned (.tuple #[.int .i64 (rooV L f k n c), .int .i64 (rooE L f k n c)]) ∧ Fr none' w w' := by
  unfold rooV rooE
  cases hf : fnd L f with
  | none =>
    have T := rat_any w q L h f
    clear h
    dsimp only
    go_enter Try.func32, Try.ntmps32
    go_wp2_with fail
    refine T.mono ?_
    rintro e w1 ⟨rfl, ⟨hf', rfl⟩ | ⟨i, x', hf', hi, rfl⟩⟩
    · clear T hf hf'
      go_wp2_with fail
      go_ret2
      exact ⟨rfl, Fr.refl _ _⟩
    · rw [hf] at hf'; cases hf'
  | some x => exact rroom_some w q L h f k n c x hf _ _ rfl rfl

theorem ChgQ.mark {w w1 : World} {q : Qb} {L : List Rg} (h : IsQ w1 q L) (f1 : Fr none' w w1) {i : Nat} {n : Rg} (hi : L[i]? = some n) {g cap : Nat} (hv : q.v = .slice (some ⟨g, 0, none⟩) L.length cap) {m : Int} (hm : 0 ≤ m ∧ m ≤ n.n) : ChgQ w q (w1.setCell ⟨g, i * 4 + 2, none⟩ (.int .i64 m)) (setM L n.f m) :=
  ⟨q, rfl, h.mark hi hv hm, (f1.mono (fun _ _ h => h.elim)).setCell (p := ⟨g, i * 4 + 2, none⟩) (Or.inr (Or.inr (by rw [hv]; rfl))) _, fun _ h => Or.inl h⟩

set_option maxRecDepth 100000 in
set_option maxHeartbeats 1000000 in
theorem rcarve_any (w : World) (q : Qb) (L : List Rg) (h : IsQ w q L) (f k n c : Int) : Calls Try.prog 30 #[.pointer (some ⟨q.b, 0, none⟩), .int .i64 f, .int .i64 k, .int .i64 n, .int .i64 c] w fun e w' => e = .returned (.tuple #[.int .i64 (rooV L f k n c), .int .i64 (rooE L f k n c)]) ∧ ChgQ w q w' (carS L f k n c) := by
  have R := rroom_any w q L h f k n c
  by_cases hE : rooE L f k n c = 0
  · have e1 : carS L f k n c = setM L f (rooV L f k n c + c * n - f) := if_pos hE
    obtain ⟨x, hf, hr, hv⟩ := rooE_zero hE
    rw [e1, hE]
    rw [hE] at R
    have hq := carve_ok (h.good.ok hf) hr
    have ef := (fnd_mem hf).2
    have hg := h.good.ok hf
    have hz := rmE_zero hr
    have hs := sizE_zero hz.1
    have hm := mul_small hz.2.1.1 hz.2.1.2 hs.1 hs.2.1
    rw [← hv, ef] at hq
    have S := fun W => rsize_any k n W
    rw [hz.1, show sizV k n = n from if_pos hz.1] at S
    have HH : Hid (IsQ w q L ∧ fnd L f = some x) := ⟨h, hf⟩
    generalize rooV L f k n c = a at *
    have b1 := hq.2.1
    have HM : Hid (0 ≤ a + c * n - f ∧ a + c * n - f ≤ x.n ∧ x.f = f) := ⟨by omega, by omega, ef⟩
    have w2 : IntKind.i64.wrap (c * n) = c * n := w64 (by omega) (by omega)
    have w3 : IntKind.i64.wrap (a + c * n) = a + c * n := w64 (by omega) (by omega)
    have w4 : IntKind.i64.wrap (a + c * n - f) = a + c * n - f := w64 (by omega) (by omega)
    clear h e1 hE hr hv hq ef hg hz hs hm b1 hf
    go_enter Try.func30, Try.ntmps30
    go_wp2_with fail
    refine R.mono ?_
    rintro e w1 ⟨rfl, f1⟩
    have h1 := HH.out.1.keep0 f1
    have T := rat_any w1 q L h1 f
    clear R
    go_wp2_with fail
    refine T.mono ?_
    rintro e wb ⟨rfl, ⟨hf', rfl⟩ | ⟨i, x', hf', hi, rfl⟩⟩
    · rw [HH.out.2] at hf'; cases hf'
    · rw [HH.out.2] at hf'
      cases hf'
      go_wp2_with fail
      refine (S _).mono ?_
      rintro e wd ⟨rfl, rfl⟩
      obtain ⟨g, cap, N, cb, c0, c1, c2, c3, hlt, hnl, fz, vv, nn⟩ := h1.rm (f := f) hi
      have HC : Hid (ChgQ w q (wd.setCell ⟨g, i * 4 + 2, none⟩ (.int .i64 (a + c * n - f))) (setM L f (a + c * n - f))) := by
        have := ChgQ.mark h1 f1 hi vv (m := a + c * n - f) ⟨HM.out.1, HM.out.2.1⟩
        rw [HM.out.2.2] at this
        exact this
      have z2 := fz (i * 4 + 2)
      have i1 : 0 ≤ (i : Int) ∧ (i : Int) < (N : Int) := by omega
      clear T h1 f1 hi vv nn fz HH S
      go_wp2_with fail
      go_ret2
      exact ⟨rfl, HC.out⟩
  · have e1 : carS L f k n c = L := if_neg hE
    have e2 := rooV_bad hE
    rw [e1, e2]
    rw [e2] at R
    generalize rooE L f k n c = E at *
    have HK : Hid (∀ w', Fr none' w w' → ChgQ w q w' L) := fun w' fr => ChgQ.same h fr
    clear h e1 e2
    go_enter Try.func30, Try.ntmps30
    go_wp2_with (go_at_call 32; refine R.mono ?_; rintro e w1 ⟨rfl, f1⟩)
    go_ret2
    exact ⟨rfl, HK.out _ f1⟩

/-! ### Reset -/
set_option maxHeartbeats 400000 in
theorem rtake_no (w : World) (u : Nat) (h : Row w u #[.int .i64 0] 75) : Calls Try.prog 48 #[.pointer (some ⟨u, 0, none⟩)] w fun e w' => e = .returned (.bool false) ∧ w' = w := by
  have c0 : w.cell? ⟨u, 0, none⟩ = some (.int .i64 0) := h.cell 0
  clear h
  go_enter Try.func48, Try.ntmps48
  go_wp2
  go_ret
  exact ⟨rfl, rfl⟩

set_option maxHeartbeats 400000 in
theorem rtake_yes (w : World) (u : Nat) (n : Int) (h : Row w u #[.int .i64 n] 75) (hn : 0 < n) (hm : n ≤ 9223372036854775807) : Calls Try.prog 48 #[.pointer (some ⟨u, 0, none⟩)] w fun e w' => e = .returned (.bool true) ∧ Row w' u #[.int .i64 (n - 1)] 75 ∧ Fr (at' u) w w' := by
  have c0 : w.cell? ⟨u, 0, none⟩ = some (.int .i64 n) := h.cell 0
  have z0 := h.frozen 0
  have HR : Hid (Row (w.setCell ⟨u, 0, none⟩ (.int .i64 (n - 1))) u #[.int .i64 (n - 1)] 75) := h.setCell 0 _
  have w1 : IntKind.i64.wrap (n - 1) = n - 1 := w64 (by omega) (by omega)
  have n0 : (n == 0) = false := by simp; omega
  clear h
  go_enter Try.func48, Try.ntmps48
  go_wp2
  go_ret
  exact ⟨rfl, HR.out, fr_set _ _ _ _ (Fr.refl _ _)⟩

end Go.Proofs.Ytcmhndkbcfpbbaa
