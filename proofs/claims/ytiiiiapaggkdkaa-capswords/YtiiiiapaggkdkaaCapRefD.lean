/-
  Contract of the document's Decode (package viceroyref11). No statement is proved here.
-/
import Derived.Test.YtiiiiapaggkdkaaCapRefE
namespace Go.Proofs.Ytiiiiapaggkdkaa
open Go.RowKit

/-- A word's parts, as the document takes it asunder. -/
def rparts (y : Int) : K := ⟨y % 16, y / 16 % 1024, y / 16384 % 16, y / 262144 % 1048576, y / 262144 / 1048576 % 8, y / 262144 / 1048576 / 256 % 65536, y / 262144 / 1048576 / 8 % 32, y / 262144 / 1048576 / 256 / 65536 % 2 == 1⟩

theorem rparts_eq (y : Int) : rparts y = partsC y := by
  refine K.ext' rfl rfl rfl rfl ?_ ?_ ?_ ?_
  · show y / 262144 / 1048576 % 8 = y / 274877906944 % 8
    omega
  · show y / 262144 / 1048576 / 256 % 65536 = y / 70368744177664 % 65536
    omega
  · show y / 262144 / 1048576 / 8 % 32 = y / 2199023255552 % 32
    omega
  · show (y / 262144 / 1048576 / 256 / 65536 % 2 == 1) = (y / 4611686018427387904 % 2 == 1)
    congr 1
    omega

set_option maxRecDepth 100000 in
set_option maxHeartbeats 1600000 in
theorem rdec_err (y : Nat) (z v : Int) (w : World) (hy : y < 18446744073709551616)
    (hE : ∀ w, Calls Try.prog 13 #[.agg #[.int .i64 ((y : Int) % 16), .int .i64 ((y : Int) / 16 % 1024), .int .i64 ((y : Int) / 16384 % 16), .int .i64 ((y : Int) / 262144 % 1048576), .int .i64 ((y : Int) / 262144 / 1048576 % 8), .int .i64 ((y : Int) / 262144 / 1048576 / 256 % 65536), .int .i64 ((y : Int) / 262144 / 1048576 / 8 % 32), .bool ((y : Int) / 262144 / 1048576 / 256 / 65536 % 2 == 1)]] w fun e w' => e = .returned (.tuple #[.int .u64 z, .int .i64 v]) ∧ Fr none' w w') (hv : (v != 0) = true) :
    Calls Try.prog 15 #[.int .u64 (y : Int)] w fun e w' => e = .returned (.tuple #[.agg #[.int .i64 0, .int .i64 0, .int .i64 0, .int .i64 0, .int .i64 0, .int .i64 0, .int .i64 0, .bool false], .int .i64 141]) ∧ Fr none' w w' := by
  have f0 := ((Fr.refl none' w).alloc (.cells (cbox 0 0 0 0 0 0 0 false) 23)).alloc (.cells (cbox ((y : Int) % 16) ((y : Int) / 16 % 1024) ((y : Int) / 16384 % 16) ((y : Int) / 262144 % 1048576) ((y : Int) / 262144 / 1048576 % 8) ((y : Int) / 262144 / 1048576 / 256 % 65536) ((y : Int) / 262144 / 1048576 / 8 % 32) ((y : Int) / 262144 / 1048576 / 256 / 65536 % 2 == 1)) 23)
  have r0 := (row_alloc w (cbox 0 0 0 0 0 0 0 false) 23).alloc (.cells (cbox ((y : Int) % 16) ((y : Int) / 16 % 1024) ((y : Int) / 16384 % 16) ((y : Int) / 262144 % 1048576) ((y : Int) / 262144 / 1048576 % 8) ((y : Int) / 262144 / 1048576 / 256 % 65536) ((y : Int) / 262144 / 1048576 / 8 % 32) ((y : Int) / 262144 / 1048576 / 256 / 65536 % 2 == 1)) 23)
  have q0 := row_alloc1 w (.cells (cbox 0 0 0 0 0 0 0 false) 23) (cbox ((y : Int) % 16) ((y : Int) / 16 % 1024) ((y : Int) / 16384 % 16) ((y : Int) / 262144 % 1048576) ((y : Int) / 262144 / 1048576 % 8) ((y : Int) / 262144 / 1048576 / 256 % 65536) ((y : Int) / 262144 / 1048576 / 8 % 32) ((y : Int) / 262144 / 1048576 / 256 / 65536 % 2 == 1)) 23
  unfold cbox at f0
  go_enter Try.func15, Try.ntmps15
  go_wp2_with fail
  refine (hE _).mono ?_
  rintro e w1 ⟨rfl, f1⟩
  replace f0 := f0.trans f1
  replace r0 := r0.keep f1 (fun h => h)
  replace q0 := q0.keep f1 (fun h => h)
  clear f1 hE
  obtain ⟨c0, c1, c2, c3, c4, c5, c6, c7⟩ := cbox_cells r0
  obtain ⟨k0, k1, k2, k3, k4, k5, k6, k7⟩ := cbox_frozen r0
  obtain ⟨d0, d1, d2, d3, d4, d5, d6, d7⟩ := cbox_cells q0
  go_wp2_with fail
  refine bodyPost_ret (ret_cap_tmp rfl rfl (cbox_set r0) rfl) rfl ?_
  exact ⟨rfl, cbox_fr _ _ _ _ _ _ _ _ f0 (Or.inl (Nat.le_refl _))⟩

set_option maxRecDepth 100000 in
set_option maxHeartbeats 1600000 in
theorem rdec_odd (y : Nat) (z v : Int) (w : World) (hy : y < 18446744073709551616)
    (hE : ∀ w, Calls Try.prog 13 #[.agg #[.int .i64 ((y : Int) % 16), .int .i64 ((y : Int) / 16 % 1024), .int .i64 ((y : Int) / 16384 % 16), .int .i64 ((y : Int) / 262144 % 1048576), .int .i64 ((y : Int) / 262144 / 1048576 % 8), .int .i64 ((y : Int) / 262144 / 1048576 / 256 % 65536), .int .i64 ((y : Int) / 262144 / 1048576 / 8 % 32), .bool ((y : Int) / 262144 / 1048576 / 256 / 65536 % 2 == 1)]] w fun e w' => e = .returned (.tuple #[.int .u64 z, .int .i64 v]) ∧ Fr none' w w') (hv : (v != 0) = false) (hz : (z != (y : Int)) = true) :
    Calls Try.prog 15 #[.int .u64 (y : Int)] w fun e w' => e = .returned (.tuple #[.agg #[.int .i64 0, .int .i64 0, .int .i64 0, .int .i64 0, .int .i64 0, .int .i64 0, .int .i64 0, .bool false], .int .i64 141]) ∧ Fr none' w w' := by
  have f0 := ((Fr.refl none' w).alloc (.cells (cbox 0 0 0 0 0 0 0 false) 23)).alloc (.cells (cbox ((y : Int) % 16) ((y : Int) / 16 % 1024) ((y : Int) / 16384 % 16) ((y : Int) / 262144 % 1048576) ((y : Int) / 262144 / 1048576 % 8) ((y : Int) / 262144 / 1048576 / 256 % 65536) ((y : Int) / 262144 / 1048576 / 8 % 32) ((y : Int) / 262144 / 1048576 / 256 / 65536 % 2 == 1)) 23)
  have r0 := (row_alloc w (cbox 0 0 0 0 0 0 0 false) 23).alloc (.cells (cbox ((y : Int) % 16) ((y : Int) / 16 % 1024) ((y : Int) / 16384 % 16) ((y : Int) / 262144 % 1048576) ((y : Int) / 262144 / 1048576 % 8) ((y : Int) / 262144 / 1048576 / 256 % 65536) ((y : Int) / 262144 / 1048576 / 8 % 32) ((y : Int) / 262144 / 1048576 / 256 / 65536 % 2 == 1)) 23)
  have q0 := row_alloc1 w (.cells (cbox 0 0 0 0 0 0 0 false) 23) (cbox ((y : Int) % 16) ((y : Int) / 16 % 1024) ((y : Int) / 16384 % 16) ((y : Int) / 262144 % 1048576) ((y : Int) / 262144 / 1048576 % 8) ((y : Int) / 262144 / 1048576 / 256 % 65536) ((y : Int) / 262144 / 1048576 / 8 % 32) ((y : Int) / 262144 / 1048576 / 256 / 65536 % 2 == 1)) 23
  unfold cbox at f0
  go_enter Try.func15, Try.ntmps15
  go_wp2_with fail
  refine (hE _).mono ?_
  rintro e w1 ⟨rfl, f1⟩
  replace f0 := f0.trans f1
  replace r0 := r0.keep f1 (fun h => h)
  replace q0 := q0.keep f1 (fun h => h)
  clear f1 hE
  obtain ⟨c0, c1, c2, c3, c4, c5, c6, c7⟩ := cbox_cells r0
  obtain ⟨k0, k1, k2, k3, k4, k5, k6, k7⟩ := cbox_frozen r0
  obtain ⟨d0, d1, d2, d3, d4, d5, d6, d7⟩ := cbox_cells q0
  go_wp2_with fail
  refine bodyPost_ret (ret_cap_tmp rfl rfl (cbox_set r0) rfl) rfl ?_
  exact ⟨rfl, cbox_fr _ _ _ _ _ _ _ _ f0 (Or.inl (Nat.le_refl _))⟩

set_option maxRecDepth 100000 in
set_option maxHeartbeats 1600000 in
theorem rdec_ok (y : Nat) (z v : Int) (w : World) (hy : y < 18446744073709551616)
    (hE : ∀ w, Calls Try.prog 13 #[.agg #[.int .i64 ((y : Int) % 16), .int .i64 ((y : Int) / 16 % 1024), .int .i64 ((y : Int) / 16384 % 16), .int .i64 ((y : Int) / 262144 % 1048576), .int .i64 ((y : Int) / 262144 / 1048576 % 8), .int .i64 ((y : Int) / 262144 / 1048576 / 256 % 65536), .int .i64 ((y : Int) / 262144 / 1048576 / 8 % 32), .bool ((y : Int) / 262144 / 1048576 / 256 / 65536 % 2 == 1)]] w fun e w' => e = .returned (.tuple #[.int .u64 z, .int .i64 v]) ∧ Fr none' w w') (hv : (v != 0) = false) (hz : (z != (y : Int)) = false) :
    Calls Try.prog 15 #[.int .u64 (y : Int)] w fun e w' => e = .returned (.tuple #[.agg #[.int .i64 ((y : Int) % 16), .int .i64 ((y : Int) / 16 % 1024), .int .i64 ((y : Int) / 16384 % 16), .int .i64 ((y : Int) / 262144 % 1048576), .int .i64 ((y : Int) / 262144 / 1048576 % 8), .int .i64 ((y : Int) / 262144 / 1048576 / 256 % 65536), .int .i64 ((y : Int) / 262144 / 1048576 / 8 % 32), .bool ((y : Int) / 262144 / 1048576 / 256 / 65536 % 2 == 1)], .int .i64 0]) ∧ Fr none' w w' := by
  have f0 := ((Fr.refl none' w).alloc (.cells (cbox 0 0 0 0 0 0 0 false) 23)).alloc (.cells (cbox ((y : Int) % 16) ((y : Int) / 16 % 1024) ((y : Int) / 16384 % 16) ((y : Int) / 262144 % 1048576) ((y : Int) / 262144 / 1048576 % 8) ((y : Int) / 262144 / 1048576 / 256 % 65536) ((y : Int) / 262144 / 1048576 / 8 % 32) ((y : Int) / 262144 / 1048576 / 256 / 65536 % 2 == 1)) 23)
  have r0 := (row_alloc w (cbox 0 0 0 0 0 0 0 false) 23).alloc (.cells (cbox ((y : Int) % 16) ((y : Int) / 16 % 1024) ((y : Int) / 16384 % 16) ((y : Int) / 262144 % 1048576) ((y : Int) / 262144 / 1048576 % 8) ((y : Int) / 262144 / 1048576 / 256 % 65536) ((y : Int) / 262144 / 1048576 / 8 % 32) ((y : Int) / 262144 / 1048576 / 256 / 65536 % 2 == 1)) 23)
  have q0 := row_alloc1 w (.cells (cbox 0 0 0 0 0 0 0 false) 23) (cbox ((y : Int) % 16) ((y : Int) / 16 % 1024) ((y : Int) / 16384 % 16) ((y : Int) / 262144 % 1048576) ((y : Int) / 262144 / 1048576 % 8) ((y : Int) / 262144 / 1048576 / 256 % 65536) ((y : Int) / 262144 / 1048576 / 8 % 32) ((y : Int) / 262144 / 1048576 / 256 / 65536 % 2 == 1)) 23
  unfold cbox at f0
  go_enter Try.func15, Try.ntmps15
  go_wp2_with fail
  refine (hE _).mono ?_
  rintro e w1 ⟨rfl, f1⟩
  replace f0 := f0.trans f1
  replace r0 := r0.keep f1 (fun h => h)
  replace q0 := q0.keep f1 (fun h => h)
  clear f1 hE
  obtain ⟨c0, c1, c2, c3, c4, c5, c6, c7⟩ := cbox_cells r0
  obtain ⟨k0, k1, k2, k3, k4, k5, k6, k7⟩ := cbox_frozen r0
  obtain ⟨d0, d1, d2, d3, d4, d5, d6, d7⟩ := cbox_cells q0
  go_wp2_with fail
  refine bodyPost_ret (ret_cap_tmp rfl rfl (cbox_set r0) rfl) rfl ?_
  exact ⟨rfl, cbox_fr _ _ _ _ _ _ _ _ f0 (Or.inl (Nat.le_refl _))⟩

theorem rdec_any (y : Nat) (w : World) (hy : y < 18446744073709551616) : Calls Try.prog 15 #[.int .u64 (y : Int)] w fun e w' => e = .returned (.tuple #[.agg #[.int .i64 (decC y).k, .int .i64 (decC y).o, .int .i64 (decC y).r, .int .i64 (decC y).b, .int .i64 (decC y).x, .int .i64 (decC y).g, .int .i64 (decC y).n, .bool (decC y).d], .int .i64 (decE y)]) ∧ Fr none' w w' := by
  have hE := fun w => renc_any (rparts y).k (rparts y).o (rparts y).r (rparts y).b (rparts y).x (rparts y).g (rparts y).n (rparts y).d w
  have hK : K.mk (rparts y).k (rparts y).o (rparts y).r (rparts y).b (rparts y).x (rparts y).g (rparts y).n (rparts y).d = partsC y := rparts_eq y
  rw [hK] at hE
  have hC : decOk y = (rightC (partsC y) && (wordC (partsC y) == (y : Int))) := rfl
  unfold decC decE
  cases hr : rightC (partsC y)
  · have e : decOk y = false := by rw [hC, hr]; rfl
    have e1 : encE (partsC y) = 141 := by unfold encE; rw [hr]; rfl
    rw [e1] at hE
    rw [e]
    exact rdec_err y _ 141 w hy hE rfl
  · have e1 : encE (partsC y) = 0 := by unfold encE; rw [hr]; rfl
    have e2 : encW (partsC y) = wordC (partsC y) := by unfold encW; rw [hr]; rfl
    rw [e1, e2] at hE
    cases hw : (wordC (partsC y) == (y : Int))
    · have e : decOk y = false := by rw [hC, hr, hw]; rfl
      rw [e]
      exact rdec_odd y _ 0 w hy hE rfl (by simpa using hw)
    · have e : decOk y = true := by rw [hC, hr, hw]; rfl
      rw [e, ← rparts_eq y]
      exact rdec_ok y _ 0 w hy hE rfl (by simpa using hw)

end Go.Proofs.Ytiiiiapaggkdkaa
