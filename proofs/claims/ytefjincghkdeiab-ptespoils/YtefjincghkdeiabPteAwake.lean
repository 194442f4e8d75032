/-
  The contract of 'awake' (some of the chapter's examples) over the translation: it answers true; nothing old turns. No statement is proved here.
-/
import Derived.Test.YtefjincghkdeiabPteVal
namespace Go.Proofs.Ytefjincghkdeiab
open Go.RowKit

theorem aw_enc1 (w : World) : Calls Try.prog 10 #[.agg #[.bool true, .bool true, .int .i64 5, .int .i64 3]] w fun e w' => e = .returned (.tuple #[.int .u16 215, .int .i64 0]) ∧ Fr none' w w' :=
  enc_ok true true 5 3 w rfl
theorem aw_enc2 (w : World) : Calls Try.prog 10 #[.agg #[.bool false, .bool false, .int .i64 0, .int .i64 1]] w fun e w' => e = .returned (.tuple #[.int .u16 0, .int .i64 20]) ∧ Fr none' w w' :=
  enc_bad false false 0 1 w rfl
theorem aw_dec1 (w : World) : Calls Try.prog 8 #[.int .u16 33] w fun e w' => e = .returned (.tuple #[.agg #[.bool false, .bool false, .int .i64 0, .int .i64 0], .int .i64 20]) ∧ Fr none' w w' := by
  have := dec_int 33 w (by omega) (by omega)
  rwa [show dv 33 = false by decide, show dl 33 = false by decide, show dr 33 = 0 by decide, show df 33 = 0 by decide, show de 33 = 20 by decide] at this
theorem aw_dec2 (w : World) : Calls Try.prog 8 #[.int .u16 65473] w fun e w' => e = .returned (.tuple #[.agg #[.bool true, .bool false, .int .i64 0, .int .i64 1023], .int .i64 0]) ∧ Fr none' w w' := by
  have := dec_int 65473 w (by omega) (by omega)
  rwa [show dv 65473 = true by decide, show dl 65473 = false by decide, show dr 65473 = 0 by decide, show df 65473 = 1023 by decide, show de 65473 = 0 by decide] at this
theorem aw_idx0 (w : World) : Calls Try.prog 11 #[.int .i64 100, .int .i64 0] w fun e w' => e = .returned (.int .i64 3) ∧ w = w' := index_any 100 0 w
theorem aw_idx1 (w : World) : Calls Try.prog 11 #[.int .i64 100, .int .i64 1] w fun e w' => e = .returned (.int .i64 4) ∧ w = w' := index_any 100 1 w

set_option maxHeartbeats 800000 in
theorem awake_any (w : World) : Calls Try.prog 4 #[] w fun e w' => e = .returned (.bool true) ∧ Fr none' w w' := by
  go_enter Try.func4, Try.ntmps4
  go_wp2_with fail
  refine (aw_enc1 _).mono ?_
  rintro e w1 ⟨rfl, f1⟩
  go_wp2_with fail
  refine (aw_dec1 _).mono ?_
  rintro e w2 ⟨rfl, f2⟩
  replace f2 := (f1.trans f2).alloc (.cells #[.bool false, .bool false, .int .i64 0, .int .i64 0] 24)
  clear f1
  go_wp2_with fail
  refine (aw_enc2 _).mono ?_
  rintro e w3 ⟨rfl, f3⟩
  replace f3 := f2.trans f3
  clear f2
  go_wp2_with fail
  refine (aw_dec2 _).mono ?_
  rintro e w4 ⟨rfl, f4⟩
  replace f4 := (f3.trans f4).alloc (.cells #[.bool true, .bool false, .int .i64 0, .int .i64 1023] 24)
  clear f3
  go_wp2_with fail
  refine (aw_idx0 _).mono ?_
  rintro e w5 ⟨rfl, rfl⟩
  go_wp2_with fail
  refine (aw_idx1 _).mono ?_
  rintro e w5 ⟨rfl, rfl⟩
  go_wp2_with fail
  go_ret
  exact ⟨rfl, f4⟩

end Go.Proofs.Ytefjincghkdeiab
