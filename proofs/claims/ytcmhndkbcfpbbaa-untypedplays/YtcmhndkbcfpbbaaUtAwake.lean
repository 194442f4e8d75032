/-
  The contract of viceroylaw14.awake over the translation. No statement is proved here.
-/
import Derived.Test.YtcmhndkbcfpbbaaUtPo
namespace Go.Proofs.Ytcmhndkbcfpbbaa
open Go.RowKit Go.Maps Go.WideMaps

def X8 : Rg := ⟨8, 8, 0, false⟩
theorem i64_8 : I64 8 := by unfold I64; omega

set_option maxRecDepth 100000 in
set_option maxHeartbeats 2000000 in
theorem awake_any (w : World) : Calls Try.prog 9 #[] w fun e w' => e = .returned (.bool true) ∧ Fr none' w w' := by
  have heq := eq_reg
  go_enter Try.func9, Try.ntmps9
  go_wp2_with fail
  refine (pnew w).mono ?_
  rintro e w1 ⟨b, rfl, P⟩
  go_wp2_with fail
  refine (new_nat 32 w1 (by omega) (by omega)).mono ?_
  rintro e w2 ⟨rfl, f2, r2⟩
  generalize List.replicate (64 * 32) (0 : UInt8) = bs at *
  have s1 : w.heap.size ≤ w1.heap.size := P.old.size
  have l2 := r2.head.lt
  replace P := P.more (O' := fun k => k = w1.heap.size + 1 ∨ k = w1.heap.size) f2 (by rintro k (rfl | rfl) <;> exact ⟨Or.inr (by omega), by omega⟩)
  have B0 : w.heap.size ≤ w1.heap.size := s1
  clear f2 l2 s1
  generalize w1.heap.size = bm at *
  go_wp2_with fail
  refine (padd P X8 (by show I64 8; exact i64_8)).mono ?_
  rintro e w3 ⟨rfl, Q, f3⟩
  replace P := Q
  replace r2 := r2.keep f3 (fun h => h.2 (Or.inl rfl)) (fun h => h.2 (Or.inr rfl))
  clear f3 Q
  rw [show addE [] X8 = 0 from rfl]
  rw [show addS [] X8 = [X8] from rfl] at P
  go_wp2_with fail
  refine (pcarve P 8 3 1 1 i64_8).mono ?_
  rintro e w4 ⟨rfl, Q, f3⟩
  replace P := Q
  replace r2 := r2.keep f3 (fun h => h.2 (Or.inl rfl)) (fun h => h.2 (Or.inr rfl))
  clear f3 Q
  rw [show rooE [X8] 8 3 1 1 = 0 by decide +kernel, show rooV [X8] 8 3 1 1 = 8 by decide +kernel]
  rw [show carS [X8] 8 3 1 1 = [⟨8, 8, 1, false⟩] by rfl] at P
  go_wp2_with fail
  refine (pcarve P 8 1 4 1 i64_8).mono ?_
  rintro e w5 ⟨rfl, Q, f3⟩
  replace P := Q
  replace r2 := r2.keep f3 (fun h => h.2 (Or.inl rfl)) (fun h => h.2 (Or.inr rfl))
  clear f3 Q
  rw [show rooE [⟨8, 8, 1, false⟩] 8 1 4 1 = 0 by decide +kernel, show rooV [⟨8, 8, 1, false⟩] 8 1 4 1 = 12 by decide +kernel]
  rw [show carS [⟨8, 8, 1, false⟩] 8 1 4 1 = [⟨8, 8, 8, false⟩] by rfl] at P
  go_wp2_with fail
  refine (pcarve P 8 6 1 1 i64_8).mono ?_
  rintro e w6 ⟨rfl, Q, f3⟩
  replace P := Q
  replace r2 := r2.keep f3 (fun h => h.2 (Or.inl rfl)) (fun h => h.2 (Or.inr rfl))
  clear f3 Q
  rw [show rooE [⟨8, 8, 8, false⟩] 8 6 1 1 = 140 by decide +kernel, show rooV [⟨8, 8, 8, false⟩] 8 6 1 1 = 0 by decide +kernel]
  rw [show carS [⟨8, 8, 8, false⟩] 8 6 1 1 = [⟨8, 8, 8, false⟩] by rfl] at P
  have P1 := P.more (O' := fun k => (k = bm + 1 ∨ k = bm) ∨ k = w6.heap.size) ((Fr.refl none' w6).alloc (.cells #[.int .i64 3] 3)) (by
    rintro k (h | rfl)
    · exact ⟨Or.inl h, by have := P.lt k h; simp; omega⟩
    · exact ⟨Or.inr (Nat.le_refl _), by simp⟩)
  have u1 := row_alloc w6 #[.int .i64 3] 3
  have r3 := r2.keep ((Fr.refl none' w6).alloc (.cells #[.int .i64 3] 3)) (fun h => h) (fun h => h)
  have s6 : w.heap.size ≤ w6.heap.size := P.old.size
  clear P r2
  go_wp2_with fail
  generalize w6.alloc (.cells #[.int .i64 3] 3) = w7 at *
  refine (prst P1 8 i64_8 w6.heap.size _ _ 32 bs 3 (by unfold I64; omega) r3 u1 ⟨Or.inr rfl, s6⟩ ⟨Or.inl (Or.inr rfl), B0⟩).mono ?_
  rintro e w8 ⟨rfl, P, u2, _, _⟩
  rw [show rstE [⟨8, 8, 8, false⟩] 8 3 = 3 by rfl]
  rw [show rstS [⟨8, 8, 8, false⟩] 8 3 = [⟨8, 8, 5, false⟩] by rfl] at P
  rw [show rstU [⟨8, 8, 8, false⟩] 8 3 = 0 by rfl] at u2
  clear P1 u1 r3
  go_wp2_with fail
  refine (pget P 8 i64_8).mono ?_
  rintro e w9 ⟨rfl, f9⟩
  rw [show getC [⟨8, 8, 5, false⟩] 8 = ⟨8, 8, 5, false⟩ by rfl, show getE [⟨8, 8, 5, false⟩] 8 = 0 by rfl]
  replace P := P.keep0 f9
  replace u2 := u2.keep f9 (fun h => h)
  clear f9
  have P1 := P.more (O' := fun k => k = w6.heap.size ∨ k = w9.heap.size) ((Fr.refl none' w9).alloc (.cells (rgA ⟨8, 8, 5, false⟩) 39)) (by
    rintro k (h | rfl)
    · exact ⟨Or.inl (Or.inr h), by have := P.lt k (Or.inr h); simp; omega⟩
    · exact ⟨Or.inr (Nat.le_refl _), by simp⟩)
  replace u2 := u2.alloc (.cells (rgA ⟨8, 8, 5, false⟩) 39)
  have z1 := row_alloc w9 (rgA ⟨8, 8, 5, false⟩) 39
  clear P
  go_wp2_with fail
  refine (usize_any 1 3 _).mono ?_
  rintro e w10 ⟨rfl, rfl⟩
  rw [show sizE 1 3 = 140 by rfl, show sizV 1 3 = 0 by rfl]
  go_wp2_with fail
  generalize w9.alloc (.cells #[.int .i64 8, .int .i64 8, .int .i64 5, .bool false] 39) = w10 at *
  refine (padd P1 ⟨1023, 2, 0, false⟩ (by show I64 1023; unfold I64; omega)).mono ?_
  rintro e w11 ⟨rfl, Q, f3⟩
  rw [show addE [⟨8, 8, 5, false⟩] ⟨1023, 2, 0, false⟩ = 1 by rfl]
  replace u2 := u2.keep f3 (fun h => h.2 (Or.inl rfl))
  replace z1 := z1.keep f3 (fun h => h.2 (Or.inr rfl))
  have c0 : w11.cell? ⟨w6.heap.size, 0, none⟩ = some (.int .i64 0) := u2.cell 0
  obtain ⟨d0, d1, d2, d3⟩ := RgR.cells z1
  have HQ : Hid (Fr none' w w11) := Q.old
  clear f3 Q P1 u2 z1
  go_wp2_with fail
  go_ret
  exact ⟨rfl, HQ.out⟩

end Go.Proofs.Ytcmhndkbcfpbbaa
