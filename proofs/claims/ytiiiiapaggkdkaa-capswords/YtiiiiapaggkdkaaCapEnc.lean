/-
  Contracts of package caps' Encode, parts and Decode over the translation. No statement is proved here.
-/
import Derived.Test.YtiiiiapaggkdkaaCapBound
namespace Go.Proofs.Ytiiiiapaggkdkaa
open Go.RowKit

theorem or64_join (k x y : Nat) (hx : x < 2 ^ k) (h : y * 2 ^ k < 18446744073709551616) (hk : 2 ^ k ≤ 18446744073709551616) : bits .or .u64 (x : Int) ((y * 2 ^ k : Nat) : Int) = ((x + y * 2 ^ k : Nat) : Int) := by
  rw [u64_or_nat x (y * 2 ^ k) (by omega) h]
  congr 1
  rw [Nat.or_comm, nat_join k (y * 2 ^ k) x (Nat.mul_mod_left _ _) hx, Nat.add_comm]

/-- The word as the code joins it. -/
theorem join_word (k o r b x n g : Nat) (hk : k < 16) (ho : o < 1024) (hr : r < 16) (hb : b < 1048576) (hx : x < 8) (hn : n < 32) (hg : g < 65536) :
    bits .or .u64 (bits .or .u64 (bits .or .u64 (bits .or .u64 (k : Int) ((o : Int) * 16)) ((r : Int) * 16384)) ((b : Int) * 262144)) (bits .or .u64 (bits .or .u64 ((x : Int) * 274877906944) ((n : Int) * 2199023255552)) ((g : Int) * 70368744177664))
      = ((k + o * 16 + r * 16384 + b * 262144 + x * 274877906944 + n * 2199023255552 + g * 70368744177664 : Nat) : Int) := by
  have e1 := or64_join 4 k o (by omega) (by omega) (by omega)
  have e2 := or64_join 14 (k + o * 2 ^ 4) r (by omega) (by omega) (by omega)
  have e3 := or64_join 18 (k + o * 2 ^ 4 + r * 2 ^ 14) b (by omega) (by omega) (by omega)
  have e4 := or64_join 41 (x * 274877906944) n (by omega) (by omega) (by omega)
  have e5 := or64_join 46 (x * 274877906944 + n * 2 ^ 41) g (by omega) (by omega) (by omega)
  have e6 := or64_join 38 (k + o * 2 ^ 4 + r * 2 ^ 14 + b * 2 ^ 18) (x + n * 8 + g * 256) (by omega) (by omega) (by omega)
  have c1 : ((o : Int) * 16) = ((o * 2 ^ 4 : Nat) : Int) := by omega
  have c2 : ((r : Int) * 16384) = ((r * 2 ^ 14 : Nat) : Int) := by omega
  have c3 : ((b : Int) * 262144) = ((b * 2 ^ 18 : Nat) : Int) := by omega
  have c4 : ((x : Int) * 274877906944) = ((x * 274877906944 : Nat) : Int) := by omega
  have c5 : ((n : Int) * 2199023255552) = ((n * 2 ^ 41 : Nat) : Int) := by omega
  have c6 : ((g : Int) * 70368744177664) = ((g * 2 ^ 46 : Nat) : Int) := by omega
  have c7 : ((x * 274877906944 + n * 2 ^ 41 + g * 2 ^ 46 : Nat) : Int) = (((x + n * 8 + g * 256) * 2 ^ 38 : Nat) : Int) := by omega
  rw [c1, c2, c3, c4, c5, c6, e1, e2, e3, e4, e5, c7, e6]
  omega

theorem code_word {k o r b x g n : Int} (h : 0 ≤ k ∧ k ≤ 11 ∧ 0 ≤ o ∧ o ≤ 1023 ∧ 0 ≤ r ∧ r ≤ 15 ∧ 0 ≤ b ∧ b ≤ 1048575 ∧ 0 ≤ x ∧ x ≤ 4 ∧ 0 ≤ n ∧ n ≤ 16 ∧ 0 ≤ g ∧ g < 65536) :
    bits .or .u64 (bits .or .u64 (bits .or .u64 (bits .or .u64 k (o * 16)) (r * 16384)) (b * 262144)) (bits .or .u64 (bits .or .u64 (x * 274877906944) (n * 2199023255552)) (g * 70368744177664)) = wordC (K.mk k o r b x g n false) := by
  obtain ⟨h1, h2, h3, h4, h5, h6, h7, h8, h9, h10, h11, h12, h13, h14⟩ := h
  obtain ⟨k, rfl⟩ := Int.eq_ofNat_of_zero_le h1
  obtain ⟨o, rfl⟩ := Int.eq_ofNat_of_zero_le h3
  obtain ⟨r, rfl⟩ := Int.eq_ofNat_of_zero_le h5
  obtain ⟨b, rfl⟩ := Int.eq_ofNat_of_zero_le h7
  obtain ⟨x, rfl⟩ := Int.eq_ofNat_of_zero_le h9
  obtain ⟨n, rfl⟩ := Int.eq_ofNat_of_zero_le h11
  obtain ⟨g, rfl⟩ := Int.eq_ofNat_of_zero_le h13
  rw [join_word k o r b x n g (by omega) (by omega) (by omega) (by omega) (by omega) (by omega) (by omega)]
  simp [wordC]

theorem code_dev {k o r b x g n : Int} (h : 0 ≤ k ∧ k ≤ 11 ∧ 0 ≤ o ∧ o ≤ 1023 ∧ 0 ≤ r ∧ r ≤ 15 ∧ 0 ≤ b ∧ b ≤ 1048575 ∧ 0 ≤ x ∧ x ≤ 4 ∧ 0 ≤ n ∧ n ≤ 16 ∧ 0 ≤ g ∧ g < 65536) :
    bits .or .u64 (wordC (K.mk k o r b x g n false)) 4611686018427387904 = wordC (K.mk k o r b x g n true) := by
  have e : 0 ≤ wordC (K.mk k o r b x g n false) ∧ wordC (K.mk k o r b x g n false) < 4611686018427387904 := by
    simp only [wordC, Bool.false_eq_true, if_false]; omega
  have e' : wordC (K.mk k o r b x g n true) = wordC (K.mk k o r b x g n false) + 4611686018427387904 := by
    simp only [wordC, Bool.false_eq_true, if_false, if_true]; omega
  rw [e']
  generalize wordC (K.mk k o r b x g n false) = z at *
  obtain ⟨z, rfl⟩ := Int.eq_ofNat_of_zero_le e.1
  have := or64_join 62 z 1 (by omega) (by omega) (by omega)
  simpa using this

theorem ret_we {a b c d : Int} (h : a = b) (h' : c = d) : Ending.returned (.tuple #[.int .u64 a, .int .i64 c]) = .returned (.tuple #[.int .u64 b, .int .i64 d]) := by rw [h, h']

set_option maxHeartbeats 1600000 in
theorem enc_any (k o r b x g n : Int) (d : Bool) (w : World) (hr : I64 r) : Calls Try.prog 12 #[.agg #[.int .i64 k, .int .i64 o, .int .i64 r, .int .i64 b, .int .i64 x, .int .i64 g, .int .i64 n, .bool d]] w fun e w' => e = .returned (.tuple #[.int .u64 (encW (K.mk k o r b x g n d)), .int .i64 (encE (K.mk k o r b x g n d))]) ∧ Fr none' w w' := by
  have f0 := (Fr.refl none' w).alloc (.cells (cbox k o r b x g n d) 23)
  have r0 := row_alloc w (cbox k o r b x g n d) 23
  unfold cbox at f0
  have R := fun w' => right_any k o r b x g n d w' hr
  unfold encW encE
  cases h : rightC (K.mk k o r b x g n d)
  · rw [h] at R
    go_enter Try.func12, Try.ntmps12
    go_wp2_with (go_at_call 10; refine (R _).mono ?_; rintro e w1 ⟨rfl, f1⟩; replace f0 := f0.trans f1; clear f1)
    go_ret2
    exact ⟨rfl, f0⟩
  · rw [h] at R
    have hB : Hid (0 ≤ k ∧ k ≤ 11 ∧ 0 ≤ o ∧ o ≤ 1023 ∧ 0 ≤ r ∧ r ≤ 15 ∧ 0 ≤ b ∧ b ≤ 1048575 ∧ 0 ≤ x ∧ x ≤ 4 ∧ 0 ≤ n ∧ n ≤ 16 ∧ 0 ≤ g ∧ g < 65536) := right_bounds h
    obtain ⟨h1, h2, h3, h4, h5, h6, h7, h8, h9, h10, h11, h12, h13, h14⟩ := hB.out
    clear h
    cases d
    · go_enter Try.func12, Try.ntmps12
      go_wp2_with (go_at_call 10; refine (R _).mono ?_; rintro e w1 ⟨rfl, f1⟩; replace f0 := f0.trans f1; obtain ⟨c0, c1, c2, c3, c4, c5, c6, c7⟩ := cbox_cells (r0.keep f1 (fun h => h)); clear f1)
      go_ret2
      exact ⟨ret_we (code_word hB.out) rfl, f0⟩
    · go_enter Try.func12, Try.ntmps12
      go_wp2_with (go_at_call 10; refine (R _).mono ?_; rintro e w1 ⟨rfl, f1⟩; replace f0 := f0.trans f1; obtain ⟨c0, c1, c2, c3, c4, c5, c6, c7⟩ := cbox_cells (r0.keep f1 (fun h => h)); clear f1)
      go_ret2
      refine ⟨ret_we ?_ rfl, f0⟩
      show bits .or .u64 (bits .or .u64 (bits .or .u64 (bits .or .u64 (bits .or .u64 k (o * 16)) (r * 16384)) (b * 262144)) (bits .or .u64 (bits .or .u64 (x * 274877906944) (n * 2199023255552)) (g * 70368744177664))) 4611686018427387904 = _
      rw [code_word hB.out, code_dev hB.out]

theorem and64_mod (x k : Nat) (hx : x < 18446744073709551616) (hk : 2 ^ k ≤ 18446744073709551616) : bits .and .u64 (x : Int) ((2 ^ k - 1 : Nat) : Int) = ((x % 2 ^ k : Nat) : Int) := by
  have hp := Nat.two_pow_pos k
  rw [u64_and_nat x (2 ^ k - 1) hx (by omega), Nat.and_two_pow_sub_one_eq_mod]

set_option maxHeartbeats 400000 in
theorem part_0 (x : Nat) (w : World) (hx : x < 18446744073709551616) : Calls Try.prog 37 #[.int .u64 (x : Int), .int .i64 0, .int .i64 4] w fun e w' => e = .returned (.int .i64 ((x : Int) % 16)) ∧ Fr none' w w' := by
  have b1 : bits .and .u64 ((x : Int)) 15 = (x : Int) % 16 := by
    have := and64_mod x 4 (by omega) (by omega)
    have e : ((x : Nat) : Int) = (x : Int) := by omega
    rw [e] at this
    have e2 : ((2 ^ 4 - 1 : Nat) : Int) = 15 := by decide
    rw [e2] at this
    rw [this]; omega
  go_enter Try.func37, Try.ntmps37
  go_wp2_with fail
  go_quiet (fail)
  go_wp2
  go_ret
  exact ⟨rfl, fr_drewN _ _⟩

set_option maxHeartbeats 400000 in
theorem part_4 (x : Nat) (w : World) (hx : x < 18446744073709551616) : Calls Try.prog 37 #[.int .u64 (x : Int), .int .i64 4, .int .i64 14] w fun e w' => e = .returned (.int .i64 ((x : Int) / 16 % 1024)) ∧ Fr none' w w' := by
  have b1 : bits .and .u64 ((x : Int) / 16) 1023 = (x : Int) / 16 % 1024 := by
    have := and64_mod (x / 16) 10 (by omega) (by omega)
    have e : (((x / 16) : Nat) : Int) = (x : Int) / 16 := by omega
    rw [e] at this
    have e2 : ((2 ^ 10 - 1 : Nat) : Int) = 1023 := by decide
    rw [e2] at this
    rw [this]; omega
  go_enter Try.func37, Try.ntmps37
  go_wp2_with fail
  go_quiet (fail)
  go_wp2
  go_ret
  exact ⟨rfl, fr_drewN _ _⟩

set_option maxHeartbeats 400000 in
theorem part_14 (x : Nat) (w : World) (hx : x < 18446744073709551616) : Calls Try.prog 37 #[.int .u64 (x : Int), .int .i64 14, .int .i64 18] w fun e w' => e = .returned (.int .i64 ((x : Int) / 16384 % 16)) ∧ Fr none' w w' := by
  have b1 : bits .and .u64 ((x : Int) / 16384) 15 = (x : Int) / 16384 % 16 := by
    have := and64_mod (x / 16384) 4 (by omega) (by omega)
    have e : (((x / 16384) : Nat) : Int) = (x : Int) / 16384 := by omega
    rw [e] at this
    have e2 : ((2 ^ 4 - 1 : Nat) : Int) = 15 := by decide
    rw [e2] at this
    rw [this]; omega
  go_enter Try.func37, Try.ntmps37
  go_wp2_with fail
  go_quiet (fail)
  go_wp2
  go_ret
  exact ⟨rfl, fr_drewN _ _⟩

set_option maxHeartbeats 400000 in
theorem part_18 (x : Nat) (w : World) (hx : x < 18446744073709551616) : Calls Try.prog 37 #[.int .u64 (x : Int), .int .i64 18, .int .i64 38] w fun e w' => e = .returned (.int .i64 ((x : Int) / 262144 % 1048576)) ∧ Fr none' w w' := by
  have b1 : bits .and .u64 ((x : Int) / 262144) 1048575 = (x : Int) / 262144 % 1048576 := by
    have := and64_mod (x / 262144) 20 (by omega) (by omega)
    have e : (((x / 262144) : Nat) : Int) = (x : Int) / 262144 := by omega
    rw [e] at this
    have e2 : ((2 ^ 20 - 1 : Nat) : Int) = 1048575 := by decide
    rw [e2] at this
    rw [this]; omega
  go_enter Try.func37, Try.ntmps37
  go_wp2_with fail
  go_quiet (fail)
  go_wp2
  go_ret
  exact ⟨rfl, fr_drewN _ _⟩

set_option maxHeartbeats 400000 in
theorem part_38 (x : Nat) (w : World) (hx : x < 18446744073709551616) : Calls Try.prog 37 #[.int .u64 (x : Int), .int .i64 38, .int .i64 41] w fun e w' => e = .returned (.int .i64 ((x : Int) / 274877906944 % 8)) ∧ Fr none' w w' := by
  have b1 : bits .and .u64 ((x : Int) / 274877906944) 7 = (x : Int) / 274877906944 % 8 := by
    have := and64_mod (x / 274877906944) 3 (by omega) (by omega)
    have e : (((x / 274877906944) : Nat) : Int) = (x : Int) / 274877906944 := by omega
    rw [e] at this
    have e2 : ((2 ^ 3 - 1 : Nat) : Int) = 7 := by decide
    rw [e2] at this
    rw [this]; omega
  go_enter Try.func37, Try.ntmps37
  go_wp2_with fail
  go_quiet (fail)
  go_wp2
  go_ret
  exact ⟨rfl, fr_drewN _ _⟩

set_option maxHeartbeats 400000 in
theorem part_41 (x : Nat) (w : World) (hx : x < 18446744073709551616) : Calls Try.prog 37 #[.int .u64 (x : Int), .int .i64 41, .int .i64 46] w fun e w' => e = .returned (.int .i64 ((x : Int) / 2199023255552 % 32)) ∧ Fr none' w w' := by
  have b1 : bits .and .u64 ((x : Int) / 2199023255552) 31 = (x : Int) / 2199023255552 % 32 := by
    have := and64_mod (x / 2199023255552) 5 (by omega) (by omega)
    have e : (((x / 2199023255552) : Nat) : Int) = (x : Int) / 2199023255552 := by omega
    rw [e] at this
    have e2 : ((2 ^ 5 - 1 : Nat) : Int) = 31 := by decide
    rw [e2] at this
    rw [this]; omega
  go_enter Try.func37, Try.ntmps37
  go_wp2_with fail
  go_quiet (fail)
  go_wp2
  go_ret
  exact ⟨rfl, fr_drewN _ _⟩

set_option maxHeartbeats 400000 in
theorem part_46 (x : Nat) (w : World) (hx : x < 18446744073709551616) : Calls Try.prog 37 #[.int .u64 (x : Int), .int .i64 46, .int .i64 62] w fun e w' => e = .returned (.int .i64 ((x : Int) / 70368744177664 % 65536)) ∧ Fr none' w w' := by
  have b1 : bits .and .u64 ((x : Int) / 70368744177664) 65535 = (x : Int) / 70368744177664 % 65536 := by
    have := and64_mod (x / 70368744177664) 16 (by omega) (by omega)
    have e : (((x / 70368744177664) : Nat) : Int) = (x : Int) / 70368744177664 := by omega
    rw [e] at this
    have e2 : ((2 ^ 16 - 1 : Nat) : Int) = 65535 := by decide
    rw [e2] at this
    rw [this]; omega
  go_enter Try.func37, Try.ntmps37
  go_wp2_with fail
  go_quiet (fail)
  go_wp2
  go_ret
  exact ⟨rfl, fr_drewN _ _⟩

set_option maxHeartbeats 400000 in
theorem part_62 (x : Nat) (w : World) (hx : x < 18446744073709551616) : Calls Try.prog 37 #[.int .u64 (x : Int), .int .i64 62, .int .i64 63] w fun e w' => e = .returned (.int .i64 ((x : Int) / 4611686018427387904 % 2)) ∧ Fr none' w w' := by
  have b1 : bits .and .u64 ((x : Int) / 4611686018427387904) 1 = (x : Int) / 4611686018427387904 % 2 := by
    have := and64_mod (x / 4611686018427387904) 1 (by omega) (by omega)
    have e : (((x / 4611686018427387904) : Nat) : Int) = (x : Int) / 4611686018427387904 := by omega
    rw [e] at this
    have e2 : ((2 ^ 1 - 1 : Nat) : Int) = 1 := by decide
    rw [e2] at this
    rw [this]; omega
  go_enter Try.func37, Try.ntmps37
  go_wp2_with fail
  go_quiet (fail)
  go_wp2
  go_ret
  exact ⟨rfl, fr_drewN _ _⟩

end Go.Proofs.Ytiiiiapaggkdkaa
