/-
  Contracts of the document's bits and Resolve over the translation. No statement is proved here.
-/
import Derived.Test.YtibdkadojoeopaaCsRefF
namespace Go.Proofs.Ytibdkadojoeopaa
open Go.RowKit Go.Maps Go.WideMaps

theorem and_one (a : Nat) (ha : a < 4294967296) : bits .and .u32 (a : Int) 1 = ((a % 2 : Nat) : Int) := by
  have e2 : (BitVec.ofInt 32 (a : Int) &&& BitVec.ofInt 32 1).toNat = a % 2 := by
    rw [BitVec.ofInt_natCast, show BitVec.ofInt 32 1 = BitVec.ofNat 32 1 from rfl, BitVec.toNat_and, BitVec.toNat_ofNat, BitVec.toNat_ofNat, Nat.mod_eq_of_lt (by omega), Nat.mod_eq_of_lt (by omega), Nat.and_one_is_mod]
  show IntKind.u32.wrap ((BitVec.ofInt 32 (a : Int) &&& BitVec.ofInt 32 1).toNat : Int) = _
  rw [e2, IntKind.wrap_u32]
  omega

theorem bit_is (x l : Nat) (hx : x < 4294967296) : bits .and .u32 ((x : Int) / 2 ^ l) 1 = ((x / 2 ^ l % 2 : Nat) : Int) := by
  have e : (x : Int) / 2 ^ l = ((x / 2 ^ l : Nat) : Int) := by push_cast; rfl
  rw [e, and_one _ (Nat.lt_of_le_of_lt (Nat.div_le_self _ _) hx)]

theorem bitV_lt (x l n : Nat) (hn : n ≤ 16) : bitV x l n < 65536 + 1 := by
  have h1 : bitV x l n < 2 ^ n := Nat.mod_lt _ (Nat.two_pow_pos _)
  have h2 : 2 ^ n ≤ 65536 := Nat.pow_le_pow_right (n := 2) (by omega) hn
  omega

set_option maxRecDepth 100000 in
set_option maxHeartbeats 1000000 in
theorem bits_any (w : World) (x l n : Nat) (hx : x < 4294967296) (hl : l ≤ 16) (hn : n ≤ 16) : Calls Try.prog 45 #[.int .u32 (x : Int), .int .i64 (l : Int), .int .i64 (n : Int)] w fun e w' => e = .returned (.int .i64 ((bitV x l n : Nat) : Int)) ∧ w' = w := by
  go_enter Try.func45, Try.ntmps45
  go_wp2_with fail
  go_loopw [7, 8] (fun o i wr => ∃ (k u : Nat), k ≤ n ∧ u < 65537 ∧ i = .int .i64 ((k : Int) - 1) ∧ o = .int .i64 (u : Int) ∧ Hid (wr = w ∧ u = bitV x (l + k) (n - k))) (fun _ i _ => (intOf i + 1).toNat)
  case atStart => exact ⟨n, 0, by omega, by omega, by go_num, rfl, rfl, by rw [Nat.sub_self]; unfold bitV; simp [Nat.mod_one]⟩
  case round =>
    obtain ⟨k, u, hk, hu, rfl, rfl, hI⟩ := hrel
    obtain rfl : wr = w := hI.out.1
    cases k with
    | zero =>
      have HU : Hid (u = bitV x l n) := hI.out.2
      clear hI
      go_wp2_with fail
      go_ret
      exact ⟨by rw [HU.out]; rfl, rfl⟩
    | succ k =>
      have e1 : ((k + 1 : Nat) : Int) - 1 = (k : Int) := by omega
      rw [e1]
      have hb := bit_is x (l + k) hx
      have hu2 : x / 2 ^ (l + k) % 2 < 2 := Nat.mod_lt _ (by omega)
      have HS : Hid (2 * u + x / 2 ^ (l + k) % 2 = bitV x (l + k) (n - k)) := by
        show _ = _
        rw [hI.out.2]
        have := bitV_step x l k n (by omega)
        rw [show n - (k + 1) = n - k - 1 by omega, show l + (k + 1) = l + k + 1 by omega]
        exact this
      have HV : Hid (bitV x (l + k) (n - k) < 65537) := bitV_lt _ _ _ (by omega)
      generalize x / 2 ^ (l + k) % 2 = bt at *
      have hs : 2 * u + bt < 65537 := by rw [HS.out]; exact HV.out
      clear hI e1
      go_wp2_with fail
      go_roundw
      case rel => exact ⟨k, 2 * u + bt, by omega, hs, by go_num, by go_num, trivial, HS.out⟩
      case measure => simp [intOf]

end Go.Proofs.Ytibdkadojoeopaa
