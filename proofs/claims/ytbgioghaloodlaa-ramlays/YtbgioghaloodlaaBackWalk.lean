/-
  The walk of the law RamBack: what is stored is loaded again, as it was, and byte by byte: for every number of frames, address, size and word the law returns true and nothing old turns.
-/
import Derived.Test.YtbgioghaloodlaaAwake
namespace Go.Proofs.Ytbgioghaloodlaa
open Go.RowKit

theorem errOf_byte (a i nf : Nat) (s : Int) (h : errOf a s nf = 0) (hi : (i : Int) < s) : errOf ((a + i : Nat) : Int) 1 nf = 0 := by
  obtain ⟨hs, ha, h0, h1⟩ := err_zero h
  rw [Int.tmod_eq_emod_of_nonneg h0] at ha
  refine err_none (by omega) (by simp) ?_
  rcases hs with rfl | rfl | rfl <;> omega

theorem stored_fits {a nf : Nat} {s : Int} {bs : List UInt8} (hl : bs.length = 64 * nf) (h : errOf a s nf = 0) : a + s.toNat ≤ bs.length := by
  obtain ⟨hs, ha, h0, h1⟩ := err_zero h
  rw [Int.tmod_eq_emod_of_nonneg h0] at ha
  rcases hs with rfl | rfl | rfl <;> simp <;> omega

theorem back_byte (w : World) (p bf nf a v i : Nat) (s x : Int) (bs : List UInt8) (hl : bs.length = 64 * nf) (he : errOf a s nf = 0) (h : IsRam w p bf nf (putAt bs a (bytesOf s.toNat v))) (hi : (i : Int) < s) (hx : x = ((v / 256 ^ i % 256 : Nat) : Int)) (y : Int) (hy : y = (a : Int) + (i : Int)) :
    Calls Try.prog 18 #[.pointer (some ⟨p, 0, none⟩), .int .i64 y, .int .i64 1] w fun e w' => e = .returned (.tuple #[.int .u32 x, .int .i64 0]) ∧ w' = w := by
  subst hx hy
  have hf := stored_fits hl he
  have hm : (a : Int) + (i : Int) ≤ 9223372036854775807 := by
    have := h.most; omega
  have := load_any w p bf nf _ ((a : Int) + (i : Int)) 1 h hm
  have e1 : ((a : Int) + (i : Int)) = ((a + i : Nat) : Int) := by omega
  have e2 := errOf_byte a i nf s he hi
  rw [e1] at this ⊢
  rw [loadV, if_pos e2, e2, Int.toNat_natCast, show (1 : Int).toNat = 1 from rfl, byte_stored bs a s.toNat v i hf (by omega)] at this
  exact this

theorem back_whole (w : World) (p bf nf a v : Nat) (s x : Int) (bs : List UInt8) (hl : bs.length = 64 * nf) (he : errOf a s nf = 0) (h : IsRam w p bf nf (putAt bs a (bytesOf s.toNat v))) (hx : x = ((v % 256 ^ s.toNat : Nat) : Int)) :
    Calls Try.prog 18 #[.pointer (some ⟨p, 0, none⟩), .int .i64 (a : Int), .int .i64 s] w fun e w' => e = .returned (.tuple #[.int .u32 x, .int .i64 0]) ∧ w' = w := by
  subst hx
  have hf := stored_fits hl he
  have := load_any w p bf nf _ (a : Int) s h (by have := h.most; omega)
  rw [loadV, if_pos he, he, Int.toNat_natCast, num_stored bs a s.toNat v hf] at this
  exact this

theorem back_store (w : World) (p bf nf a v : Nat) (s : Int) (bs : List UInt8) (h : IsRam w p bf nf bs) (he : errOf a s nf = 0) (hv : v < 4294967296) :
    Calls Try.prog 17 #[.pointer (some ⟨p, 0, none⟩), .int .i64 (a : Int), .int .i64 s, .int .u32 (v : Int)] w fun e w' =>
      e = .returned (.int .i64 0) ∧ Fr (at' bf) w w' ∧ IsRam w' p bf nf (putAt bs a (bytesOf s.toNat v)) := by
  have := store_any w p bf nf bs (a : Int) s v h (by obtain ⟨_, _, _, h1⟩ := err_zero he; have := h.most; omega) hv
  rw [storeB, if_pos he, he, Int.toNat_natCast] at this
  exact this

theorem and_255 (x : Nat) (h : x < 4294967296) : bits .and .u32 (x : Int) 255 = ((x % 256 : Nat) : Int) := by
  have := u32_and_nat x 255 h (by omega)
  rw [nat_mask8] at this
  exact this
theorem and_65535 (x : Nat) (h : x < 4294967296) : bits .and .u32 (x : Int) 65535 = ((x % 65536 : Nat) : Int) := by
  have := u32_and_nat x 65535 h (by omega)
  rw [Nat.and_two_pow_sub_one_eq_mod x 16] at this
  exact this

theorem mod4 {v : Nat} (h : v < 4294967296) : (v : Int) = ((v % 256 ^ (4 : Int).toNat : Nat) : Int) := by
  rw [show v % 256 ^ (4 : Int).toNat = v from Nat.mod_eq_of_lt h]
theorem mod2 {v : Nat} : (v : Int) % 65536 = ((v % 256 ^ (2 : Int).toNat : Nat) : Int) := by
  rw [show (256 : Nat) ^ (2 : Int).toNat = 65536 from rfl]; omega
theorem mod1 {v : Nat} : (v : Int) % 256 = ((v % 256 ^ (1 : Int).toNat : Nat) : Int) := by
  rw [show (256 : Nat) ^ (1 : Int).toNat = 256 from rfl]; omega

theorem byte0 (v : Nat) : (v : Int) % 256 = ((v / 256 ^ 0 % 256 : Nat) : Int) := by
  rw [show (256 : Nat) ^ 0 = 1 from rfl]; omega
theorem byte1 (v : Nat) : (v : Int) / 256 % 256 = ((v / 256 ^ 1 % 256 : Nat) : Int) := by
  rw [show (256 : Nat) ^ 1 = 256 from rfl]; omega
theorem byte2 (v : Nat) : (v : Int) / 65536 % 256 = ((v / 256 ^ 2 % 256 : Nat) : Int) := by
  rw [show (256 : Nat) ^ 2 = 65536 from rfl]; omega
theorem byte3 (v : Nat) : (v : Int) / 16777216 % 256 = ((v / 256 ^ 3 % 256 : Nat) : Int) := by
  rw [show (256 : Nat) ^ 3 = 16777216 from rfl]; omega

set_option maxHeartbeats 800000 in
theorem back1 (f : Int) (a v : Nat) (w : World) (hf : 1 ≤ f ∧ f ≤ 1024) (he : errOf a 1 f.toNat = 0) (hv : v < 4294967296) :
    Calls Try.prog 4 #[.int .i64 f, .int .i64 (a : Int), .int .i64 1, .int .u32 (v : Int)] w fun e w' => e = .returned (.bool true) ∧ Fr none' w w' := by
  have ha : (a : Int) < 65536 := by obtain ⟨_, _, _, h1⟩ := err_zero he; omega
  have HE : Hid (errOf a 1 f.toNat = 0) := he
  clear he
  have b0 : bits .and .u32 (v : Int) 255 = (v : Int) % 256 := by rw [and_255 v hv]; omega
  go_enter Try.func4, Try.ntmps4
  go_wp2_with fail
  refine (awake_any _).mono ?_
  rintro e w1 ⟨rfl, f1⟩
  go_wp2_with fail
  refine (new_any _ _ hf).mono ?_
  rintro e w2 ⟨rfl, f2, r2⟩
  replace f2 := f1.trans f2
  have hz := f1.size
  clear f1
  go_wp2_with fail
  refine (back_store _ _ _ _ _ _ _ _ r2 HE hv).mono ?_
  rintro e w3 ⟨rfl, f3, r3⟩
  replace f3 := f2.newer f3 hz
  have HL : Hid ((List.replicate (64 * f.toNat) (0 : UInt8)).length = 64 * f.toNat) := r2.len
  clear f2 r2
  go_wp2_with fail
  refine (back_whole _ _ _ _ _ _ _ ((v : Int) % 256) _ HL HE r3 mod1).mono ?_
  rintro e w4 ⟨rfl, rfl⟩
  go_wp2_with fail
  refine wp_loop_rounds 2 ?_
  rw [rounds_succ]; go_wp2_with fail
  refine (back_byte _ _ _ _ _ _ 0 _ ((v : Int) % 256) _ HL HE r3 (by omega) (byte0 v) _ (by omega)).mono ?_
  rintro e w5 ⟨rfl, rfl⟩
  go_wp2_with fail
  rw [rounds_succ]; go_wp2_with fail
  go_ret
  exact ⟨rfl, f3⟩

set_option maxHeartbeats 800000 in
theorem back2 (f : Int) (a v : Nat) (w : World) (hf : 1 ≤ f ∧ f ≤ 1024) (he : errOf a 2 f.toNat = 0) (hv : v < 4294967296) :
    Calls Try.prog 4 #[.int .i64 f, .int .i64 (a : Int), .int .i64 2, .int .u32 (v : Int)] w fun e w' => e = .returned (.bool true) ∧ Fr none' w w' := by
  have ha : (a : Int) < 65536 := by obtain ⟨_, _, _, h1⟩ := err_zero he; omega
  have HE : Hid (errOf a 2 f.toNat = 0) := he
  clear he
  have b0 : bits .and .u32 (v : Int) 255 = (v : Int) % 256 := by rw [and_255 v hv]; omega
  have b1 : bits .and .u32 ((v : Int) / 256) 255 = (v : Int) / 256 % 256 := by have := and_255 (v / 256) (by omega); rw [show ((v / 256 : Nat) : Int) = (v : Int) / 256 by omega] at this; rw [this]; omega
  have b2 : bits .and .u32 (v : Int) 65535 = (v : Int) % 65536 := by rw [and_65535 v hv]; omega
  go_enter Try.func4, Try.ntmps4
  go_wp2_with fail
  refine (awake_any _).mono ?_
  rintro e w1 ⟨rfl, f1⟩
  go_wp2_with fail
  refine (new_any _ _ hf).mono ?_
  rintro e w2 ⟨rfl, f2, r2⟩
  replace f2 := f1.trans f2
  have hz := f1.size
  clear f1
  go_wp2_with fail
  refine (back_store _ _ _ _ _ _ _ _ r2 HE hv).mono ?_
  rintro e w3 ⟨rfl, f3, r3⟩
  replace f3 := f2.newer f3 hz
  have HL : Hid ((List.replicate (64 * f.toNat) (0 : UInt8)).length = 64 * f.toNat) := r2.len
  clear f2 r2
  go_wp2_with fail
  refine (back_whole _ _ _ _ _ _ _ ((v : Int) % 65536) _ HL HE r3 mod2).mono ?_
  rintro e w4 ⟨rfl, rfl⟩
  go_wp2_with fail
  refine wp_loop_rounds 3 ?_
  rw [rounds_succ]; go_wp2_with fail
  refine (back_byte _ _ _ _ _ _ 0 _ ((v : Int) % 256) _ HL HE r3 (by omega) (byte0 v) _ (by omega)).mono ?_
  rintro e w5 ⟨rfl, rfl⟩
  go_wp2_with fail
  rw [rounds_succ]; go_wp2_with fail
  refine (back_byte _ _ _ _ _ _ 1 _ ((v : Int) / 256 % 256) _ HL HE r3 (by omega) (byte1 v) _ (by omega)).mono ?_
  rintro e w6 ⟨rfl, rfl⟩
  go_wp2_with fail
  rw [rounds_succ]; go_wp2_with fail
  go_ret
  exact ⟨rfl, f3⟩

set_option maxHeartbeats 800000 in
theorem back4 (f : Int) (a v : Nat) (w : World) (hf : 1 ≤ f ∧ f ≤ 1024) (he : errOf a 4 f.toNat = 0) (hv : v < 4294967296) :
    Calls Try.prog 4 #[.int .i64 f, .int .i64 (a : Int), .int .i64 4, .int .u32 (v : Int)] w fun e w' => e = .returned (.bool true) ∧ Fr none' w w' := by
  have ha : (a : Int) < 65536 := by obtain ⟨_, _, _, h1⟩ := err_zero he; omega
  have HE : Hid (errOf a 4 f.toNat = 0) := he
  clear he
  have b0 : bits .and .u32 (v : Int) 255 = (v : Int) % 256 := by rw [and_255 v hv]; omega
  have b1 : bits .and .u32 ((v : Int) / 256) 255 = (v : Int) / 256 % 256 := by have := and_255 (v / 256) (by omega); rw [show ((v / 256 : Nat) : Int) = (v : Int) / 256 by omega] at this; rw [this]; omega
  have b2 : bits .and .u32 ((v : Int) / 65536) 255 = (v : Int) / 65536 % 256 := by have := and_255 (v / 65536) (by omega); rw [show ((v / 65536 : Nat) : Int) = (v : Int) / 65536 by omega] at this; rw [this]; omega
  have b3 : bits .and .u32 ((v : Int) / 16777216) 255 = (v : Int) / 16777216 % 256 := by have := and_255 (v / 16777216) (by omega); rw [show ((v / 16777216 : Nat) : Int) = (v : Int) / 16777216 by omega] at this; rw [this]; omega
  go_enter Try.func4, Try.ntmps4
  go_wp2_with fail
  refine (awake_any _).mono ?_
  rintro e w1 ⟨rfl, f1⟩
  go_wp2_with fail
  refine (new_any _ _ hf).mono ?_
  rintro e w2 ⟨rfl, f2, r2⟩
  replace f2 := f1.trans f2
  have hz := f1.size
  clear f1
  go_wp2_with fail
  refine (back_store _ _ _ _ _ _ _ _ r2 HE hv).mono ?_
  rintro e w3 ⟨rfl, f3, r3⟩
  replace f3 := f2.newer f3 hz
  have HL : Hid ((List.replicate (64 * f.toNat) (0 : UInt8)).length = 64 * f.toNat) := r2.len
  clear f2 r2
  go_wp2_with fail
  refine (back_whole _ _ _ _ _ _ _ (v : Int) _ HL HE r3 (mod4 hv)).mono ?_
  rintro e w4 ⟨rfl, rfl⟩
  go_wp2_with fail
  refine wp_loop_rounds 5 ?_
  rw [rounds_succ]; go_wp2_with fail
  refine (back_byte _ _ _ _ _ _ 0 _ ((v : Int) % 256) _ HL HE r3 (by omega) (byte0 v) _ (by omega)).mono ?_
  rintro e w5 ⟨rfl, rfl⟩
  go_wp2_with fail
  rw [rounds_succ]; go_wp2_with fail
  refine (back_byte _ _ _ _ _ _ 1 _ ((v : Int) / 256 % 256) _ HL HE r3 (by omega) (byte1 v) _ (by omega)).mono ?_
  rintro e w6 ⟨rfl, rfl⟩
  go_wp2_with fail
  rw [rounds_succ]; go_wp2_with fail
  refine (back_byte _ _ _ _ _ _ 2 _ ((v : Int) / 65536 % 256) _ HL HE r3 (by omega) (byte2 v) _ (by omega)).mono ?_
  rintro e w7 ⟨rfl, rfl⟩
  go_wp2_with fail
  rw [rounds_succ]; go_wp2_with fail
  refine (back_byte _ _ _ _ _ _ 3 _ ((v : Int) / 16777216 % 256) _ HL HE r3 (by omega) (byte3 v) _ (by omega)).mono ?_
  rintro e w8 ⟨rfl, rfl⟩
  go_wp2_with fail
  rw [rounds_succ]; go_wp2_with fail
  go_ret
  exact ⟨rfl, f3⟩

set_option maxHeartbeats 800000 in
theorem back_none (f a s v : Int) (w : World) (hf : ¬ (1 ≤ f ∧ f ≤ 1024)) :
    Calls Try.prog 4 #[.int .i64 f, .int .i64 a, .int .i64 s, .int .u32 v] w fun e w' => e = .returned (.bool true) ∧ Fr none' w w' := by
  have HF : Hid (¬ (1 ≤ f ∧ f ≤ 1024)) := hf
  clear hf
  go_enter Try.func4, Try.ntmps4
  go_wp2_with fail
  refine (awake_any _).mono ?_
  rintro e w1 ⟨rfl, f1⟩
  go_wp2_with fail
  refine (new_none _ _ HF).mono ?_
  rintro e w2 ⟨rfl, rfl⟩
  go_wp2_with fail
  go_ret
  exact ⟨rfl, f1⟩

set_option maxHeartbeats 800000 in
theorem back_bad (f a s : Int) (v : Nat) (w : World) (hf : 1 ≤ f ∧ f ≤ 1024) (he : errOf a s f.toNat ≠ 0) (hm : a ≤ 9223372036854775807) :
    Calls Try.prog 4 #[.int .i64 f, .int .i64 a, .int .i64 s, .int .u32 (v : Int)] w fun e w' => e = .returned (.bool true) ∧ Fr none' w w' := by
  have HE : Hid (errOf a s f.toNat ≠ 0) := he
  have hb : (errOf a s f.toNat != 0) = true := by simpa using he
  clear he
  go_enter Try.func4, Try.ntmps4
  go_wp2_with fail
  refine (awake_any _).mono ?_
  rintro e w1 ⟨rfl, f1⟩
  go_wp2_with fail
  refine (new_any _ _ hf).mono ?_
  rintro e w2 ⟨rfl, f2, r2⟩
  replace f2 := f1.trans f2
  clear f1
  go_wp2_with fail
  refine (store_bad _ _ _ _ _ _ _ r2.hcell HE hm).mono ?_
  rintro e w3 ⟨rfl, rfl⟩
  go_wp2_with fail
  refine (load_bad _ _ _ _ _ _ r2.hcell HE hm).mono ?_
  rintro e w4 ⟨rfl, rfl⟩
  go_wp2_with fail
  go_ret
  exact ⟨rfl, f2⟩

theorem back_any (f a s v : Int) (w : World) (ha : a ≤ 9223372036854775807) (hv0 : 0 ≤ v) (hv : v ≤ 4294967295) :
    Calls Try.prog 4 #[.int .i64 f, .int .i64 a, .int .i64 s, .int .u32 v] w fun e w' => e = .returned (.bool true) ∧ Below w.heap.size w w' := by
  have key : Calls Try.prog 4 #[.int .i64 f, .int .i64 a, .int .i64 s, .int .u32 v] w fun e w' => e = .returned (.bool true) ∧ Fr none' w w' := by
    obtain ⟨v, rfl⟩ := Int.eq_ofNat_of_zero_le hv0
    by_cases hf : 1 ≤ f ∧ f ≤ 1024
    · by_cases he : errOf a s f.toNat = 0
      · obtain ⟨hs, _, h0, _⟩ := err_zero he
        obtain ⟨a, rfl⟩ := Int.eq_ofNat_of_zero_le h0
        rcases hs with rfl | rfl | rfl
        · exact back1 f a v w hf he (by omega)
        · exact back2 f a v w hf he (by omega)
        · exact back4 f a v w hf he (by omega)
      · exact back_bad f a s v w hf he ha
    · exact back_none f a s v w hf
  exact key.mono fun e w' ⟨he, hf⟩ => ⟨he, hf.below (Nat.le_refl _) (fun k h => h.elim)⟩

end Go.Proofs.Ytbgioghaloodlaa
