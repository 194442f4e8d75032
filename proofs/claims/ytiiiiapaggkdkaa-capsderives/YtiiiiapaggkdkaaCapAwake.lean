/-
  The statements' own example: what awake asks of package caps is answered as the chapter says. No statement is proved here.
-/
import Derived.Test.YtiiiiapaggkdkaaCapSame
namespace Go.Proofs.Ytiiiiapaggkdkaa
open Go.RowKit

theorem aw_enc (w : World) : Calls Try.prog 12 #[.agg #[.int .i64 4, .int .i64 5, .int .i64 3, .int .i64 1, .int .i64 0, .int .i64 0, .int .i64 0, .bool false]] w fun e w' => e = .returned (.tuple #[.int .u64 311380, .int .i64 0]) ∧ Fr none' w w' := by
  have h := enc_any 4 5 3 1 0 0 0 false w (by unfold I64; omega)
  rw [show encW (K.mk 4 5 3 1 0 0 0 false) = 311380 by decide +kernel, show encE (K.mk 4 5 3 1 0 0 0 false) = 0 by decide +kernel] at h
  exact h

theorem aw_right (w : World) : Calls Try.prog 10 #[.agg #[.int .i64 5, .int .i64 0, .int .i64 8, .int .i64 0, .int .i64 0, .int .i64 0, .int .i64 0, .bool false]] w fun e w' => e = .returned (.bool false) ∧ Fr none' w w' := by
  have h := right_any 5 0 8 0 0 0 0 false w (by unfold I64; omega)
  rw [show rightC (K.mk 5 0 8 0 0 0 0 false) = false by decide +kernel] at h
  exact h

theorem aw_mint (w : World) : Calls Try.prog 20 #[.agg #[.int .i64 4, .int .i64 5, .int .i64 3, .int .i64 1, .int .i64 0, .int .i64 0, .int .i64 0, .bool false], .int .i64 3, .int .i64 2, .int .i64 0, .int .i64 0] w fun e w' => e = .returned (.tuple #[.agg #[.int .i64 0, .int .i64 0, .int .i64 0, .int .i64 0, .int .i64 0, .int .i64 0, .int .i64 0, .bool false], .int .i64 110]) ∧ Fr none' w w' :=
  mint_any 4 5 3 1 0 0 0 false 3 2 0 0 w

theorem aw_mint2 (w : World) : Calls Try.prog 20 #[.agg #[.int .i64 4, .int .i64 5, .int .i64 11, .int .i64 0, .int .i64 0, .int .i64 0, .int .i64 0, .bool false], .int .i64 1, .int .i64 7, .int .i64 0, .int .i64 0] w fun e w' => e = .returned (.tuple #[.agg #[.int .i64 4, .int .i64 5, .int .i64 1, .int .i64 7, .int .i64 0, .int .i64 0, .int .i64 0, .bool false], .int .i64 0]) ∧ Fr none' w w' := by
  have h := mint_any 4 5 11 0 0 0 0 false 1 7 0 0 w
  rw [show mintC (K.mk 4 5 11 0 0 0 0 false) 1 7 0 0 = K.mk 4 5 1 7 0 0 0 false from K.ext' (by decide +kernel) (by decide +kernel) (by decide +kernel) (by decide +kernel) (by decide +kernel) (by decide +kernel) (by decide +kernel) (by decide +kernel), show mintE (K.mk 4 5 11 0 0 0 0 false) 7 0 0 = 0 by decide +kernel] at h
  exact h

theorem aw_der (w : World) : Calls Try.prog 18 #[.agg #[.int .i64 1, .int .i64 0, .int .i64 0, .int .i64 0, .int .i64 0, .int .i64 0, .int .i64 0, .bool false]] w fun e w' => e = .returned (.tuple #[.agg #[.int .i64 0, .int .i64 0, .int .i64 0, .int .i64 0, .int .i64 0, .int .i64 0, .int .i64 0, .bool false], .int .i64 110]) ∧ Fr none' w w' :=
  derive_any 1 0 0 0 0 0 0 false w

theorem aw_der2 (w : World) : Calls Try.prog 18 #[.agg #[.int .i64 0, .int .i64 0, .int .i64 0, .int .i64 0, .int .i64 0, .int .i64 0, .int .i64 0, .bool false]] w fun e w' => e = .returned (.tuple #[.agg #[.int .i64 0, .int .i64 0, .int .i64 0, .int .i64 0, .int .i64 0, .int .i64 0, .int .i64 0, .bool false], .int .i64 131]) ∧ Fr none' w w' :=
  derive_any 0 0 0 0 0 0 0 false w

set_option maxRecDepth 100000 in
set_option maxHeartbeats 1600000 in
theorem awake_any (w : World) : Calls Try.prog 9 #[] w fun e w' => e = .returned (.bool true) ∧ Fr none' w w' := by
  have f0 := Fr.refl none' w
  have heq := fun w => eq_cap 4 5 1 7 0 0 0 4 5 1 7 0 0 0 false false w
  rw [eqK_self] at heq
  go_enter Try.func9, Try.ntmps9
  go_wp2_with fail
  refine (aw_enc _).mono ?_
  rintro e w1 ⟨rfl, f1⟩
  replace f0 := f0.trans f1
  clear f1
  go_wp2_with fail
  refine (aw_right _).mono ?_
  rintro e w2 ⟨rfl, f1⟩
  replace f0 := f0.trans f1
  clear f1
  go_wp2_with fail
  refine (aw_mint _).mono ?_
  rintro e w3 ⟨rfl, f1⟩
  replace f0 := f0.trans f1
  clear f1
  have ra := row_alloc w3 (cbox 0 0 0 0 0 0 0 false) 23
  replace f0 := f0.alloc (.cells (cbox 0 0 0 0 0 0 0 false) 23)
  unfold cbox at f0 ra
  clear ra
  go_wp2_with fail
  refine (aw_mint2 _).mono ?_
  rintro e w4 ⟨rfl, f1⟩
  replace f0 := f0.trans f1
  clear f1
  have rb := row_alloc w4 (cbox 4 5 1 7 0 0 0 false) 23
  replace f0 := f0.alloc (.cells (cbox 4 5 1 7 0 0 0 false) 23)
  unfold cbox at f0 rb
  obtain ⟨rbc0, rbc1, rbc2, rbc3, rbc4, rbc5, rbc6, rbc7⟩ := cbox_cells rb
  go_wp2_with fail
  refine (aw_der _).mono ?_
  rintro e w5 ⟨rfl, f1⟩
  clear rbc0 rbc1 rbc2 rbc3 rbc4 rbc5 rbc6 rbc7
  replace rb := rb.keep f1 (fun h => h)
  replace f0 := f0.trans f1
  clear f1
  have rc := row_alloc w5 (cbox 0 0 0 0 0 0 0 false) 23
  replace rb := rb.alloc (.cells (cbox 0 0 0 0 0 0 0 false) 23)
  replace f0 := f0.alloc (.cells (cbox 0 0 0 0 0 0 0 false) 23)
  unfold cbox at f0 rb rc
  clear rc
  obtain ⟨rbc0, rbc1, rbc2, rbc3, rbc4, rbc5, rbc6, rbc7⟩ := cbox_cells rb
  go_wp2_with fail
  refine (aw_der2 _).mono ?_
  rintro e w6 ⟨rfl, f1⟩
  clear rbc0 rbc1 rbc2 rbc3 rbc4 rbc5 rbc6 rbc7
  replace rb := rb.keep f1 (fun h => h)
  replace f0 := f0.trans f1
  clear f1
  have rd := row_alloc w6 (cbox 0 0 0 0 0 0 0 false) 23
  replace rb := rb.alloc (.cells (cbox 0 0 0 0 0 0 0 false) 23)
  replace f0 := f0.alloc (.cells (cbox 0 0 0 0 0 0 0 false) 23)
  unfold cbox at f0 rb rd
  clear rd
  obtain ⟨rbc0, rbc1, rbc2, rbc3, rbc4, rbc5, rbc6, rbc7⟩ := cbox_cells rb
  go_wp2_with fail
  go_ret
  exact ⟨rfl, f0⟩

end Go.Proofs.Ytiiiiapaggkdkaa
