/-
  viceroylaw16.ints and like, over the translation. No statement is proved here.
-/
import Derived.Test.YtjobdfkfongjaaaIpBo
import Derived.BigQuiet
/- IpInts -/
namespace Go.Proofs.Ytjobdfkfongjaaa
open Go.RowKit Go.Maps Go.WideMaps Go.Shelf

theorem OI.form2 {B : Nat} {w : World} {v : Value} {l : List Int} (h : OI B w v l) : ∃ (a : Option Addr) (cap : Nat), v = .slice a l.length cap ∧ ∀ i, i < l.length → ∃ g x, l[i]? = some x ∧ a = some ⟨g, 0, none⟩ ∧ w.cell? ⟨g, i, none⟩ = some (.int .i64 x) := by
  obtain ⟨a, cap, hv, hn⟩ := h.form
  refine ⟨a, cap, hv, fun i hi => ?_⟩
  obtain ⟨g, e, c⟩ := hn i l[i] (List.getElem?_eq_getElem hi)
  exact ⟨g, _, List.getElem?_eq_getElem hi, e, c⟩

theorem fr_drewN' (w : World) (k : Nat) : Fr none' w (w.drewN k) := ⟨rfl, rfl, rfl, Nat.le_refl _, fun _ _ _ => rfl⟩

set_option maxRecDepth 100000 in
set_option maxHeartbeats 4000000 in
theorem ints_any {B1 B2 : Nat} {w : World} {v1 v2 : Value} {l : List Int} (h1 : OI B1 w v1 l) (h2 : OI B2 w v2 l) (hl : l.length ≤ 100000) : Calls Try.prog 20 #[v1, v2] w fun e w' => e = .returned (.bool true) ∧ Fr none' w w' := by
  obtain ⟨a, ca, rfl, ha⟩ := h1.form2
  obtain ⟨b, cb, rfl, hb⟩ := h2.form2
  obtain ⟨N, hN⟩ : ∃ N, N = l.length := ⟨_, rfl⟩
  rw [← hN] at hl ⊢
  have HA : Hid (∀ i, i < N → ∃ g x, l[i]? = some x ∧ a = some ⟨g, 0, none⟩ ∧ w.cell? ⟨g, i, none⟩ = some (.int .i64 x)) := fun i hi => ha i (by omega)
  have HB : Hid (∀ i, i < N → ∃ g x, l[i]? = some x ∧ b = some ⟨g, 0, none⟩ ∧ w.cell? ⟨g, i, none⟩ = some (.int .i64 x)) := fun i hi => hb i (by omega)
  clear h1 h2 ha hb hN
  go_enter Try.func20, Try.ntmps20
  go_wp2_with fail
  go_loopw [5] (fun i wr => ∃ j : Nat, j ≤ N ∧ i = .int .i64 (j : Int) ∧ Hid (Fr none' w wr)) (fun i _ => N - (intOf i).toNat)
  case atStart => exact ⟨0, by omega, rfl, Fr.refl _ _⟩
  case round =>
    obtain ⟨j, hj, rfl, hI⟩ := hrel
    by_cases hjN : j < N
    · obtain ⟨g, x, ex, rfl, q0⟩ := HA.out j hjN
      obtain ⟨k, y, ey, rfl, q1⟩ := HB.out j hjN
      rw [ex] at ey
      obtain rfl : x = y := Option.some.inj ey
      have i1 : 0 ≤ (j : Int) ∧ (j : Int) < (N : Int) := by omega
      have dj : decide ((j : Int) < (N : Int)) = true := decide_eq_true (by omega)
      have c0 : wr.cell? ⟨g, j, none⟩ = some (.int .i64 x) := cell_keep hI.out q0 (fun h => h)
      have c1 : wr.cell? ⟨k, j, none⟩ = some (.int .i64 x) := cell_keep hI.out q1 (fun h => h)
      clear ex ey q0 q1
      go_upto_region 6 with fail
      go_quiet (fail)
      go_wp2_with fail
      go_roundw
      case rel => exact ⟨j + 1, by omega, by go_num, hI.out.trans (fr_drewN' _ _)⟩
      case measure => simp [intOf]; omega
    · obtain rfl : j = N := by omega
      have dj : decide ((j : Int) < (j : Int)) = false := decide_eq_false (by omega)
      go_wp2_with fail
      go_ret
      exact ⟨rfl, hI.out⟩

set_option maxRecDepth 100000 in
set_option maxHeartbeats 4000000 in
theorem like_any {B1 B2 : Nat} {w : World} {v1 v2 : Value} {l : List Int} (h1 : OI B1 w v1 l) (h2 : OI B2 w v2 l) (hl : l.length ≤ 100000) (n : Int) (g : Bool) (e : Int) (m : Ms) : Calls Try.prog 12 #[.agg (anA n g e m v1), .agg (anA n g e m v2)] w fun en w' => en = .returned (.bool true) ∧ Fr none' w w' := by
  have f := ((Fr.refl none' w).alloc (.cells (anA n g e m v1) 39)).alloc (.cells (anA n g e m v2) 39)
  have q1 := (row_alloc w (anA n g e m v1) 39).alloc (.cells (anA n g e m v2) 39)
  have q2 := row_alloc1 w (.cells (anA n g e m v1) 39) (anA n g e m v2) 39
  have X := ints_any (h1.keep0 f) (h2.keep0 f) hl
  have HF : Hid (Fr none' w ((w.alloc (.cells (anA n g e m v1) 39)).alloc (.cells (anA n g e m v2) 39))) := f
  have HM : ∀ w, (binOp .eql 36 (msV m) (msV m)).run Try.prog w = .ok (.bool true) w := fun w => by rw [eql_ms, eqM_iff.2 rfl]
  have hg : (g == g) = true := by simp
  have a0 := q1.cell 0
  have b0 := q2.cell 0
  have a1 := q1.cell 1
  have b1 := q2.cell 1
  have a2 := q1.cell 2
  have b2 := q2.cell 2
  have a3 := q1.cell 3
  have b3 := q2.cell 3
  have a4 := q1.cell 4
  have b4 := q2.cell 4
  have a5 := q1.cell 5
  have b5 := q2.cell 5
  have a6 := q1.cell 6
  have b6 := q2.cell 6
  have a7 := q1.cell 7
  have b7 := q2.cell 7
  have a8 := q1.cell 8
  have b8 := q2.cell 8
  have a9 := q1.cell 9
  have b9 := q2.cell 9
  have a10 := q1.cell 10
  have b10 := q2.cell 10
  dsimp only [anA] at X HF
  dsimp [anA] at a0 b0 a1 b1 a2 b2 a3 b3 a4 b4 a5 b5 a6 b6 a7 b7 a8 b8 a9 b9 a10 b10
  dsimp only [msV] at HM
  dsimp only [anA]
  clear f q1 q2 h1 h2 hl
  go_enter Try.func12, Try.ntmps12
  go_wp2_with fail
  refine X.mono ?_
  clear X
  rintro en w1 ⟨rfl, f1⟩
  have HF1 : Hid (Fr none' w w1) := HF.out.trans f1
  have A0 := cell_keep f1 a0 (fun h => h)
  have B0 := cell_keep f1 b0 (fun h => h)
  have A1 := cell_keep f1 a1 (fun h => h)
  have B1 := cell_keep f1 b1 (fun h => h)
  have A2 := cell_keep f1 a2 (fun h => h)
  have B2 := cell_keep f1 b2 (fun h => h)
  have A3 := cell_keep f1 a3 (fun h => h)
  have B3 := cell_keep f1 b3 (fun h => h)
  have A4 := cell_keep f1 a4 (fun h => h)
  have B4 := cell_keep f1 b4 (fun h => h)
  have A5 := cell_keep f1 a5 (fun h => h)
  have B5 := cell_keep f1 b5 (fun h => h)
  have A6 := cell_keep f1 a6 (fun h => h)
  have B6 := cell_keep f1 b6 (fun h => h)
  have A7 := cell_keep f1 a7 (fun h => h)
  have B7 := cell_keep f1 b7 (fun h => h)
  have A8 := cell_keep f1 a8 (fun h => h)
  have B8 := cell_keep f1 b8 (fun h => h)
  have A9 := cell_keep f1 a9 (fun h => h)
  have B9 := cell_keep f1 b9 (fun h => h)
  have A10 := cell_keep f1 a10 (fun h => h)
  have B10 := cell_keep f1 b10 (fun h => h)
  clear a0 b0 a1 b1 a2 b2 a3 b3 a4 b4 a5 b5 a6 b6 a7 b7 a8 b8 a9 b9 a10 b10
  clear f1
  go_wp2_with fail
  go_ret
  exact ⟨rfl, HF1.out⟩

end Go.Proofs.Ytjobdfkfongjaaa

