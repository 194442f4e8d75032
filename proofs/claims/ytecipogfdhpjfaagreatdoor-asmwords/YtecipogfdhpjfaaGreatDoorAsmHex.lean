/-
  The contract of the library's FormatUint at base 16, of a word. No statement is proved here.
-/
import Derived.Test.YtecipogfdhpjfaaGreatDoorAsmEnv
import Derived.Deep.RegionHeld3
namespace Go.Proofs.YtecipogfdhpjfaaGreatDoor
open Go.RowKit

/-- A number from 0 on, in hexadecimal. -/
def hexS (n : Nat) : List UInt8 := if _h : n < 16 then [hexB n] else hexS (n / 16) ++ [hexB (n % 16)]
  termination_by n
  decreasing_by omega

theorem hexS_small {n : Nat} (h : n < 16) : hexS n = [hexB n] := by rw [hexS, dif_pos h]
theorem hexS_big {n : Nat} (h : ¬ n < 16) : hexS n = hexS (n / 16) ++ [hexB (n % 16)] := by rw [hexS, dif_neg h]

def digC : ByteArray := ⟨#[48, 49, 50, 51, 52, 53, 54, 55, 56, 57, 97, 98, 99, 100, 101, 102, 103, 104, 105, 106, 107, 108, 109, 110, 111, 112, 113, 114, 115, 116, 117, 118, 119, 120, 121, 122]⟩

theorem hid' {p : Prop} (h : p) : Hid p := h

set_option maxHeartbeats 1000000 in
theorem tz_any (w : World) (hE : Env w) : Calls Tryz.prog 100 #[.int .u64 16] w fun e w' => e = .returned (.int .i64 4) ∧ w' = w := by
  have hz := hE.tz
  have a1 : IntKind.u64.wrap (-16) = 18446744073709551600 := by decide
  have a2 : bits .and .u64 16 18446744073709551600 = 16 := by decide
  have a3 : IntKind.u64.wrap (16 * 285870213051353865) = 4573923408821661840 := by decide
  have h64 : Calls Tryz.prog 115 #[.int .u64 16] w fun e w' => e = .returned (.int .i64 4) ∧ w' = w := by
    go_enter Tryz.func115, Tryz.ntmps115
    go_wp2
    go_ret
    exact ⟨rfl, rfl⟩
  go_enter Tryz.func100, Tryz.ntmps100
  go_wp2_with fail
  refine h64.mono ?_
  rintro e w1 ⟨rfl, rfl⟩
  go_wp2_with fail
  go_ret
  exact ⟨rfl, rfl⟩

set_option maxHeartbeats 400000 in
theorem pow_any (w : World) : Calls Tryz.prog 99 #[.int .i64 16] w fun e w' => e = .returned (.bool true) ∧ w' = w := by
  go_enter Tryz.func99, Tryz.ntmps99
  go_wp2
  go_ret
  exact ⟨rfl, rfl⟩

theorem and64_15 (x : Nat) (h : x < 18446744073709551616) : bits .and .u64 (x : Int) 15 = ((x % 16 : Nat) : Int) := by
  have := u64_and_nat x 15 h (by omega)
  rw [Nat.and_two_pow_sub_one_eq_mod x 4] at this
  exact this

theorem hex_at (m : Nat) (hm : m < 16) : ∀ h, (digC[m]'h) = hexB m := by
  have : m = 0 ∨ m = 1 ∨ m = 2 ∨ m = 3 ∨ m = 4 ∨ m = 5 ∨ m = 6 ∨ m = 7 ∨ m = 8 ∨ m = 9 ∨ m = 10 ∨ m = 11 ∨ m = 12 ∨ m = 13 ∨ m = 14 ∨ m = 15 := by omega
  intro h
  rcases this with rfl | rfl | rfl | rfl | rfl | rfl | rfl | rfl | rfl | rfl | rfl | rfl | rfl | rfl | rfl | rfl <;> rfl

/-- The last digits stand at the end of sixty-five bytes. -/
def HexRow (w : World) (g k : Nat) (D : List UInt8) : Prop := ∃ cs, Row w g cs 154 ∧ cs.size = 65 ∧ k + D.length = 65 ∧ ∀ j, j < D.length → cs[k + j]? = some (Value.int .u8 ((D.getD j 0).toNat : Int))

theorem HexRow.next {w : World} {g k : Nat} {D : List UInt8} (h : HexRow w g (k + 1) D) (c : UInt8) : HexRow (w.setCell ⟨g, k, none⟩ (.int .u8 (c.toNat : Int))) g k (c :: D) := by
  obtain ⟨cs, hr, hs, hk, hd⟩ := h
  refine ⟨_, hr.setCell k _, by simpa using hs, by simp; omega, fun j hj => ?_⟩
  match j with
  | 0 => rw [Nat.add_zero, Array.getElem?_setIfInBounds_self_of_lt (by omega)]; rfl
  | j + 1 =>
    rw [Array.getElem?_setIfInBounds_ne (by omega)]
    have := hd j (by simp at hj; omega)
    rw [show k + (j + 1) = k + 1 + j by omega, this]
    rfl

theorem HexRow.keep {S : Nat → Prop} {w w' : World} {g k : Nat} {D : List UInt8} (h : HexRow w g k D) (f : Fr S w w') (hs : ¬ S g) : HexRow w' g k D := by
  obtain ⟨cs, hr, r⟩ := h; exact ⟨cs, hr.keep f hs, r⟩

theorem HexRow.old {w : World} {g k : Nat} {D : List UInt8} (h : HexRow w g k D) (j : Nat) (hj : j < 65) : (∃ v, w.cell? ⟨g, j, none⟩ = some v) ∧ w.frozen? ⟨g, j, none⟩ = false := by
  obtain ⟨cs, hr, hs, _⟩ := h
  exact ⟨⟨cs[j]'(by omega), (hr.cell _).trans (Array.getElem?_eq_getElem (by omega))⟩, hr.frozen j⟩

theorem HexRow.conv {w : World} {g k : Nat} {D : List UInt8} (h : HexRow w g k D) (cap : Nat) : (convert 55 9 (.slice (some ⟨g, k, none⟩) D.length cap)).run Tryz.prog w = .ok (strV D) w := by
  obtain ⟨cs, hr, hs, hk, hd⟩ := h
  refine run_convert_bytes_back w _ _ 5 ⟨g, k, none⟩ cap D Tryz.underlying55 Tryz.underlying5 Tryz.underlying9 (fun j hj => ?_)
  rw [add_lit', hr.cell, hd j hj]
  simp [List.getD, hj]

theorem slice_run (g k : Nat) (hk : k < 65) (w : World) : (Instr.sliceAt 154 (.pointer (some ⟨g, 0, none⟩)) (some (.int .i64 (k : Int))) none none).run Tryz.prog w = .ok (.slice (some ⟨g, k, none⟩) (65 - k) (65 - k)) w := by
  have hu : Tryz.prog.underlying 154 = some (.array 65 5) := Tryz.underlying154
  have hi : (Tryz.prog.info? 5).map (·.size) = some 1 := by kernel_rfl
  cases hq : Tryz.prog.info? 5 with
  | none => simp [hq] at hi
  | some i =>
    have hs : i.size = 1 := by simpa [hq] using hi
    have h1 : ¬ (65 : Int) < (k : Int) := by omega
    have h2 : ¬ 65 = k := by omega
    have h3 : (k : Int) ≤ 65 := by omega
    simp [Instr.sliceAt, Instr.sureAddr, run_underlying hu, Instr.sliceBounds, run_sliceBound, sizeOf, typeInfo, hq, hs, Sem.run_bind, h2, h3, add_lit']

set_option maxRecDepth 100000 in
set_option maxHeartbeats 2000000 in
theorem bits_any (x : Nat) (hx : x < 4294967296) (w : World) (hE : Env w) : Calls Tryz.prog 78 #[.slice none 0 0, .int .u64 (x : Int), .int .i64 16, .bool false, .bool false] w fun e w' => e = .returned (.tuple #[.slice none 0 0, strV (hexS x)]) ∧ Fr none' w w' := by
  have hP := pow_any
  have f0 := (Fr.refl none' w).alloc (.cells Tryz.zeroCells154 154)
  have r0 : HexRow (w.alloc (.cells Tryz.zeroCells154 154)) w.heap.size 65 [] := ⟨_, row_alloc _ _ _, by decide +kernel, rfl, fun j hj => by simp at hj⟩
  have hT := tz_any _ (hE.keep f0)
  clear hE
  go_enter Tryz.func78, Tryz.ntmps78
  go_wp2_with (go_at_call 99; refine (hP _).mono ?_; rintro e w1 ⟨rfl, rfl⟩)
  refine hT.mono ?_
  rintro e w1 ⟨rfl, rfl⟩
  go_wp2_with fail
  go_loopw [1, 13] (fun a i wr => ∃ (u k : Nat) (D : List UInt8), a = .int .u64 (u : Int) ∧ i = .int .i64 (k : Int) ∧ Fr none' w wr ∧ HexRow wr w.heap.size k D ∧ hexS x = hexS u ++ D ∧ u < 16 ^ (8 - D.length) ∧ D.length ≤ 7) (fun a _ _ => (intOf a).toNat)
  case atStart => exact ⟨x, 65, [], rfl, rfl, f0, r0, by simp, by simpa using hx, by simp⟩
  case round =>
    clear f0 r0 hT hP
    obtain ⟨u, k, D, rfl, rfl, fk, hr, he, hu, hd⟩ := hrel
    have hkk : k + D.length = 65 := by obtain ⟨_, _, _, h, _⟩ := hr; exact h
    obtain ⟨k', rfl⟩ : ∃ k', k = k' + 1 := ⟨k - 1, by omega⟩
    have hu8 : u < 4294967296 := Nat.lt_of_lt_of_le hu (by have := Nat.pow_le_pow_right (show 0 < 16 by decide) (show 8 - D.length ≤ 8 by omega); simpa using this)
    obtain ⟨⟨v, c0⟩, g0⟩ := hr.old k' (by omega)
    have i1 : 0 ≤ (k' : Int) ∧ (k' : Int) < 65 := by omega
    by_cases hlt : u < 16
    · have u1 : decide ((16 : Int) ≤ (u : Int)) = false := decide_eq_false (by omega)
      have v1 : decide (16 ≤ u) = false := decide_eq_false (by omega)
      have hi := hex_at u hlt
      unfold digC at hi
      have hc := (hr.next (hexB u)).conv (65 - k')
      have hl : (hexB u :: D).length = 65 - k' := by simp; omega
      rw [hl] at hc
      have hsl := slice_run w.heap.size k' (by omega)
      have HX : Hid (hexS x = hexB u :: D) := by
        show hexS x = hexB u :: D
        rw [he, hexS_small hlt]; rfl
      have f2 := fk.setCell (p := ⟨w.heap.size, k', none⟩) (Or.inl (Nat.le_refl _)) (.int .u8 ((hexB u).toNat : Int))
      clear he hu hd hr hl hu8 hkk
      go_wp2_with fail
      go_ret2
      exact ⟨by rw [HX.out]; rfl, f2⟩
    · have u1 : decide ((16 : Int) ≤ (u : Int)) = true := decide_eq_true (by omega)
      have v1 : decide (16 ≤ u) = true := decide_eq_true (by omega)
      have hm : u % 16 < 16 := Nat.mod_lt _ (by decide)
      have hi := hex_at (u % 16) hm
      unfold digC at hi
      have ha := and64_15 u (by omega)
      have r2 := hr.next (hexB (u % 16))
      have HX : Hid (hexS x = hexS (u / 16) ++ hexB (u % 16) :: D) := by
        show hexS x = hexS (u / 16) ++ hexB (u % 16) :: D
        rw [he, hexS_big hlt]; simp
      have HU : Hid (u / 16 < 16 ^ (8 - (hexB (u % 16) :: D).length) ∧ (hexB (u % 16) :: D).length ≤ 7) := by
        have h7 : D.length ≤ 6 := by
          rcases Nat.lt_or_ge D.length 7 with h | h
          · omega
          · have : 8 - D.length = 1 := by omega
            rw [this] at hu; simp at hu; omega
        refine ⟨?_, by simp; omega⟩
        rw [show 8 - D.length = (8 - (hexB (u % 16) :: D).length) + 1 by simp; omega, Nat.pow_succ] at hu
        exact Nat.div_lt_of_lt_mul (by rw [Nat.mul_comm]; exact hu)
      have R2 := hid' r2
      have f2 := fk.setCell (p := ⟨w.heap.size, k', none⟩) (Or.inl (Nat.le_refl _)) (.int .u8 ((hexB (u % 16)).toNat : Int))
      have HL : Hid (¬ u < 16) := hlt
      clear he hu hd hr hkk r2 hm hlt
      go_wp2_with fail
      go_roundw
      case rel => exact ⟨u / 16, k', hexB (u % 16) :: D, by go_num, by go_num, f2, R2.out, HX.out, HU.out.1, HU.out.2⟩
      case measure => have := HL.out; simp [intOf]; omega

set_option maxHeartbeats 1000000 in
theorem fmt_any (x : Nat) (hx : x < 4294967296) (w : World) (hE : Env w) : Calls Tryz.prog 34 #[.int .u64 (x : Int), .int .i64 16] w fun e w' => e = .returned (strV (hexS x)) ∧ Fr none' w w' := by
  have hb := bits_any x hx w hE
  have h1 : Calls Tryz.prog 54 #[.int .u64 (x : Int), .int .i64 16] w fun e w' => e = .returned (strV (hexS x)) ∧ Fr none' w w' := by
    go_enter Tryz.func54, Tryz.ntmps54
    go_wp2_with fail
    refine hb.mono ?_
    rintro e w1 ⟨rfl, f1⟩
    go_wp2_with fail
    go_ret
    exact ⟨rfl, f1⟩
  go_enter Tryz.func34, Tryz.ntmps34
  go_wp2_with fail
  refine h1.mono ?_
  rintro e w1 ⟨rfl, f1⟩
  go_wp2_with fail
  go_ret
  exact ⟨rfl, f1⟩

theorem hexS_len : ∀ (k x : Nat), x < 16 ^ (k + 1) → (hexS x).length ≤ k + 1
  | 0, x, h => by rw [hexS_small (by simpa using h)]; simp
  | k + 1, x, h => by
    by_cases hx : x < 16
    · rw [hexS_small hx]; simp
    · rw [hexS_big hx, List.length_append]
      have := hexS_len k (x / 16) (Nat.div_lt_of_lt_mul (by rw [Nat.pow_succ] at h; rw [Nat.mul_comm]; exact h))
      simp; omega

/-- So many digits, with noughts ahead. -/
def padH (k x : Nat) : List UInt8 := List.replicate (k - (hexS x).length) 48 ++ hexS x
def digsH : Nat → Nat → List UInt8
  | 0, _ => []
  | k + 1, x => digsH k (x / 16) ++ [hexB (x % 16)]

theorem digs_zero : ∀ k, digsH k 0 = List.replicate k 48
  | 0 => rfl
  | k + 1 => by rw [digsH, Nat.zero_div, digs_zero k, List.replicate_succ']; rfl

theorem pad_digs : ∀ (k x : Nat), x < 16 ^ (k + 1) → padH (k + 1) x = digsH (k + 1) x
  | k, x, h => by
    by_cases hx : x < 16
    · unfold padH
      rw [hexS_small hx, digsH, Nat.div_eq_of_lt hx, digs_zero, Nat.mod_eq_of_lt hx]
      rfl
    · match k with
      | 0 => exact absurd (by simpa using h) hx
      | k + 1 =>
        have ih := pad_digs k (x / 16) (Nat.div_lt_of_lt_mul (by rw [Nat.pow_succ] at h; rw [Nat.mul_comm]; exact h))
        rw [digsH, ← ih]
        unfold padH
        rw [hexS_big hx, List.length_append]
        have : k + 1 + 1 - ((hexS (x / 16)).length + [hexB (x % 16)].length) = k + 1 - (hexS (x / 16)).length := by simp
        rw [this, List.append_assoc]

theorem raw_pad (x : Nat) (hx : x < 4294967296) : rawB x = [119, 111, 114, 100, 32, 48, 120] ++ (List.replicate (8 - (hexS x).length) 48 ++ hexS x) := by
  have := pad_digs 7 x (by simpa using hx)
  unfold padH at this
  rw [this]
  unfold rawB
  simp only [digsH, List.nil_append, List.cons_append, Nat.div_div_eq_div_mul]

end Go.Proofs.YtecipogfdhpjfaaGreatDoor
