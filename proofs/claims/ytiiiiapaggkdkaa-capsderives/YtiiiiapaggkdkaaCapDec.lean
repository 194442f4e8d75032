/-
  Contracts of package caps' parts and Decode over the translation. No statement is proved here.
-/
import Derived.Test.YtiiiiapaggkdkaaCapEnc
namespace Go.Proofs.Ytiiiiapaggkdkaa
open Go.RowKit

set_option maxHeartbeats 1600000 in
theorem parts_gen (y ak ao ar ab ax ag an ad : Int) (P0 : ∀ w, Calls Try.prog 37 #[.int .u64 y, .int .i64 0, .int .i64 4] w fun e w' => e = .returned (.int .i64 ak) ∧ Fr none' w w') (P4 : ∀ w, Calls Try.prog 37 #[.int .u64 y, .int .i64 4, .int .i64 14] w fun e w' => e = .returned (.int .i64 ao) ∧ Fr none' w w') (P14 : ∀ w, Calls Try.prog 37 #[.int .u64 y, .int .i64 14, .int .i64 18] w fun e w' => e = .returned (.int .i64 ar) ∧ Fr none' w w') (P18 : ∀ w, Calls Try.prog 37 #[.int .u64 y, .int .i64 18, .int .i64 38] w fun e w' => e = .returned (.int .i64 ab) ∧ Fr none' w w') (P38 : ∀ w, Calls Try.prog 37 #[.int .u64 y, .int .i64 38, .int .i64 41] w fun e w' => e = .returned (.int .i64 ax) ∧ Fr none' w w') (P41 : ∀ w, Calls Try.prog 37 #[.int .u64 y, .int .i64 41, .int .i64 46] w fun e w' => e = .returned (.int .i64 an) ∧ Fr none' w w') (P46 : ∀ w, Calls Try.prog 37 #[.int .u64 y, .int .i64 46, .int .i64 62] w fun e w' => e = .returned (.int .i64 ag) ∧ Fr none' w w') (P62 : ∀ w, Calls Try.prog 37 #[.int .u64 y, .int .i64 62, .int .i64 63] w fun e w' => e = .returned (.int .i64 ad) ∧ Fr none' w w') (w : World) : Calls Try.prog 28 #[.int .u64 y] w fun e w' => e = .returned (.agg #[.int .i64 ak, .int .i64 ao, .int .i64 ar, .int .i64 ab, .int .i64 ax, .int .i64 ag, .int .i64 an, .bool (ad == 1)]) ∧ Fr none' w w' := by
  have f0 := (Fr.refl none' w).alloc (.cells (cbox 0 0 0 0 0 0 0 false) 23)
  have r0 := row_alloc w (cbox 0 0 0 0 0 0 0 false) 23
  unfold cbox at f0
  go_enter Try.func28, Try.ntmps28
  go_wp2_with fail
  refine (P0 _).mono ?_
  rintro e w1 ⟨rfl, f1⟩
  replace f0 := f0.trans f1
  replace r0 := r0.keep f1 (fun h => h)
  clear f1
  go_wp2_with fail
  refine (P4 _).mono ?_
  rintro e w1 ⟨rfl, f1⟩
  replace f0 := f0.trans f1
  replace r0 := r0.keep f1 (fun h => h)
  clear f1
  go_wp2_with fail
  refine (P14 _).mono ?_
  rintro e w1 ⟨rfl, f1⟩
  replace f0 := f0.trans f1
  replace r0 := r0.keep f1 (fun h => h)
  clear f1
  go_wp2_with fail
  refine (P18 _).mono ?_
  rintro e w1 ⟨rfl, f1⟩
  replace f0 := f0.trans f1
  replace r0 := r0.keep f1 (fun h => h)
  clear f1
  go_wp2_with fail
  refine (P38 _).mono ?_
  rintro e w1 ⟨rfl, f1⟩
  replace f0 := f0.trans f1
  replace r0 := r0.keep f1 (fun h => h)
  clear f1
  go_wp2_with fail
  refine (P41 _).mono ?_
  rintro e w1 ⟨rfl, f1⟩
  replace f0 := f0.trans f1
  replace r0 := r0.keep f1 (fun h => h)
  clear f1
  go_wp2_with fail
  refine (P46 _).mono ?_
  rintro e w1 ⟨rfl, f1⟩
  replace f0 := f0.trans f1
  replace r0 := r0.keep f1 (fun h => h)
  clear f1
  go_wp2_with fail
  refine (P62 _).mono ?_
  rintro e w1 ⟨rfl, f1⟩
  replace f0 := f0.trans f1
  replace r0 := r0.keep f1 (fun h => h)
  clear f1
  obtain ⟨k0, k1, k2, k3, k4, k5, k6, k7⟩ := cbox_frozen r0
  obtain ⟨c0, c1, c2, c3, c4, c5, c6, c7⟩ := cbox_cells r0
  generalize (ad == 1) = z
  go_wp2
  refine bodyPost_ret (ret_cap rfl rfl (cbox_set r0) rfl) rfl ?_
  exact ⟨rfl, cbox_fr _ _ _ _ _ _ _ _ f0 (Or.inl (Nat.le_refl _))⟩

theorem parts_any (y : Nat) (w : World) (hy : y < 18446744073709551616) : Calls Try.prog 28 #[.int .u64 (y : Int)] w fun e w' => e = .returned (.agg #[.int .i64 (partsC y).k, .int .i64 (partsC y).o, .int .i64 (partsC y).r, .int .i64 (partsC y).b, .int .i64 (partsC y).x, .int .i64 (partsC y).g, .int .i64 (partsC y).n, .bool (partsC y).d]) ∧ Fr none' w w' := by
  unfold partsC
  exact parts_gen (y : Int) _ _ _ _ _ _ _ _ (fun w => part_0 y w hy) (fun w => part_4 y w hy) (fun w => part_14 y w hy) (fun w => part_18 y w hy) (fun w => part_38 y w hy) (fun w => part_41 y w hy) (fun w => part_46 y w hy) (fun w => part_62 y w hy) w

theorem parts_i64 (y : Nat) : I64 (partsC y).r := by
  show I64 ((y : Int) / 16384 % 16)
  unfold I64
  omega

theorem cbox_ofK (q : K) : #[.int .i64 (q).k, .int .i64 (q).o, .int .i64 (q).r, .int .i64 (q).b, .int .i64 (q).x, .int .i64 (q).g, .int .i64 (q).n, .bool (q).d] = cbox q.k q.o q.r q.b q.x q.g q.n q.d := rfl

set_option maxHeartbeats 1600000 in
theorem dec_any (y : Nat) (w : World) (hy : y < 18446744073709551616) : Calls Try.prog 14 #[.int .u64 (y : Int)] w fun e w' => e = .returned (.tuple #[.agg #[.int .i64 (decC y).k, .int .i64 (decC y).o, .int .i64 (decC y).r, .int .i64 (decC y).b, .int .i64 (decC y).x, .int .i64 (decC y).g, .int .i64 (decC y).n, .bool (decC y).d], .int .i64 (decE y)]) ∧ Fr none' w w' := by
  have P := fun w => parts_any y w hy
  have hE := fun w => enc_any (partsC y).k (partsC y).o (partsC y).r (partsC y).b (partsC y).x (partsC y).g (partsC y).n (partsC y).d w (parts_i64 y)
  have hC : decOk y = (rightC (partsC y) && (wordC (partsC y) == (y : Int))) := rfl
  unfold decC decE
  have hc : (decOk y = true ∧ encW (partsC y) = (y : Int) ∧ encE (partsC y) = 0) ∨ (decOk y = false ∧ encE (partsC y) = 141) ∨ (decOk y = false ∧ encE (partsC y) = 0 ∧ (encW (partsC y) != (y : Int)) = true) := by
    rw [hC]
    unfold encW encE
    cases hr : rightC (partsC y)
    · exact Or.inr (Or.inl ⟨rfl, rfl⟩)
    · cases hw : (wordC (partsC y) == (y : Int))
      · refine Or.inr (Or.inr ⟨rfl, rfl, ?_⟩)
        simpa using hw
      · exact Or.inl ⟨rfl, by simpa using hw, rfl⟩
  clear hC
  replace hE : ∀ w, Calls Try.prog 12 #[.agg #[.int .i64 (partsC y).k, .int .i64 (partsC y).o, .int .i64 (partsC y).r, .int .i64 (partsC y).b, .int .i64 (partsC y).x, .int .i64 (partsC y).g, .int .i64 (partsC y).n, .bool (partsC y).d]] w fun e w' => e = .returned (.tuple #[.int .u64 (encW (partsC y)), .int .i64 (encE (partsC y))]) ∧ Fr none' w w' := hE
  generalize partsC y = q at *
  have f0 := (Fr.refl none' w).alloc (.cells (cbox 0 0 0 0 0 0 0 false) 23)
  have r0 := row_alloc w (cbox 0 0 0 0 0 0 0 false) 23
  unfold cbox at f0
  rcases hc with ⟨h1, h2, h3⟩ | ⟨h1, h3⟩ | ⟨h1, h3, h2⟩
  all_goals rw [h1]
  all_goals rw [h3] at hE
  all_goals clear h1 h3
  · rw [h2] at hE
    clear h2
    have h2 : ((y : Int) != (y : Int)) = false := by simp
    go_enter Try.func14, Try.ntmps14
    go_wp2_with fail
    refine (P _).mono ?_
    rintro e w1 ⟨rfl, f1⟩
    replace r0 := (r0.keep f1 (fun h => h)).alloc (.cells (cbox q.k q.o q.r q.b q.x q.g q.n q.d) 23)
    have q0 := row_alloc w1 (cbox q.k q.o q.r q.b q.x q.g q.n q.d) 23
    replace f0 := (f0.trans f1).alloc (.cells (cbox q.k q.o q.r q.b q.x q.g q.n q.d) 23)
    unfold cbox at f0
    clear f1
    go_wp2_with fail
    refine (hE _).mono ?_
    rintro e w2 ⟨rfl, f2⟩
    replace r0 := r0.keep f2 (fun h => h)
    replace q0 := q0.keep f2 (fun h => h)
    replace f0 := f0.trans f2
    clear f2
    obtain ⟨c0, c1, c2, c3, c4, c5, c6, c7⟩ := cbox_cells r0
    obtain ⟨k0, k1, k2, k3, k4, k5, k6, k7⟩ := cbox_frozen r0
    obtain ⟨d0, d1, d2, d3, d4, d5, d6, d7⟩ := cbox_cells q0
    go_wp2_with fail
    refine bodyPost_ret (ret_cap_tmp rfl rfl (cbox_set r0) rfl) rfl ?_
    exact ⟨rfl, cbox_fr _ _ _ _ _ _ _ _ f0 (Or.inl (Nat.le_refl _))⟩
  · generalize encW q = z at *
    go_enter Try.func14, Try.ntmps14
    go_wp2_with fail
    refine (P _).mono ?_
    rintro e w1 ⟨rfl, f1⟩
    replace r0 := (r0.keep f1 (fun h => h)).alloc (.cells (cbox q.k q.o q.r q.b q.x q.g q.n q.d) 23)
    have q0 := row_alloc w1 (cbox q.k q.o q.r q.b q.x q.g q.n q.d) 23
    replace f0 := (f0.trans f1).alloc (.cells (cbox q.k q.o q.r q.b q.x q.g q.n q.d) 23)
    unfold cbox at f0
    clear f1
    go_wp2_with fail
    refine (hE _).mono ?_
    rintro e w2 ⟨rfl, f2⟩
    replace r0 := r0.keep f2 (fun h => h)
    replace q0 := q0.keep f2 (fun h => h)
    replace f0 := f0.trans f2
    clear f2
    obtain ⟨c0, c1, c2, c3, c4, c5, c6, c7⟩ := cbox_cells r0
    obtain ⟨k0, k1, k2, k3, k4, k5, k6, k7⟩ := cbox_frozen r0
    obtain ⟨d0, d1, d2, d3, d4, d5, d6, d7⟩ := cbox_cells q0
    go_wp2_with fail
    refine bodyPost_ret (ret_cap_tmp rfl rfl (cbox_set r0) rfl) rfl ?_
    exact ⟨rfl, cbox_fr _ _ _ _ _ _ _ _ f0 (Or.inl (Nat.le_refl _))⟩
  · generalize encW q = z at *
    go_enter Try.func14, Try.ntmps14
    go_wp2_with fail
    refine (P _).mono ?_
    rintro e w1 ⟨rfl, f1⟩
    replace r0 := (r0.keep f1 (fun h => h)).alloc (.cells (cbox q.k q.o q.r q.b q.x q.g q.n q.d) 23)
    have q0 := row_alloc w1 (cbox q.k q.o q.r q.b q.x q.g q.n q.d) 23
    replace f0 := (f0.trans f1).alloc (.cells (cbox q.k q.o q.r q.b q.x q.g q.n q.d) 23)
    unfold cbox at f0
    clear f1
    go_wp2_with fail
    refine (hE _).mono ?_
    rintro e w2 ⟨rfl, f2⟩
    replace r0 := r0.keep f2 (fun h => h)
    replace q0 := q0.keep f2 (fun h => h)
    replace f0 := f0.trans f2
    clear f2
    obtain ⟨c0, c1, c2, c3, c4, c5, c6, c7⟩ := cbox_cells r0
    obtain ⟨k0, k1, k2, k3, k4, k5, k6, k7⟩ := cbox_frozen r0
    obtain ⟨d0, d1, d2, d3, d4, d5, d6, d7⟩ := cbox_cells q0
    go_wp2_with fail
    refine bodyPost_ret (ret_cap_tmp rfl rfl (cbox_set r0) rfl) rfl ?_
    exact ⟨rfl, cbox_fr _ _ _ _ _ _ _ _ f0 (Or.inl (Nat.le_refl _))⟩

end Go.Proofs.Ytiiiiapaggkdkaa
