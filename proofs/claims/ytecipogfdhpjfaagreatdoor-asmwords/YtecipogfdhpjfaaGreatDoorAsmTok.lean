/-
  The contracts of package asm's small readers of words over the translation: digits, numbers, what a word is. No statement is proved here.
-/
import Derived.Test.YtecipogfdhpjfaaGreatDoorAsmEnv
namespace Go.Proofs.YtecipogfdhpjfaaGreatDoor
open Go.RowKit

def digL : List UInt8 := [48, 49, 50, 51, 52, 53, 54, 55, 56, 57, 97, 98, 99, 100, 101, 102]
def dix (b : Nat) (c : UInt8) : Int := Lib.indexByte (digL.take b) c
theorem dix10 (c : UInt8) : dix 10 c = if isDig c then ((c.toNat - 48 : Nat) : Int) else -1 := by
  have h : ∀ n : Fin 256, dix 10 (UInt8.ofNat n.val) = if isDig (UInt8.ofNat n.val) then (((UInt8.ofNat n.val).toNat - 48 : Nat) : Int) else -1 := by decide +kernel
  have := h ⟨c.toNat, by have := c.toNat_lt; omega⟩
  simpa using this
theorem dix16 (c : UInt8) : dix 16 c = match hexD c with | some d => ((d : Nat) : Int) | none => -1 := by
  have h : ∀ n : Fin 256, dix 16 (UInt8.ofNat n.val) = match hexD (UInt8.ofNat n.val) with | some d => ((d : Nat) : Int) | none => -1 := by decide +kernel
  have := h ⟨c.toNat, by have := c.toNat_lt; omega⟩
  simpa using this

def worthF (b : Nat) : List UInt8 → Nat → Option Nat
  | [], n => some n
  | c :: r, n => if dix b c < 0 then none else worthF b r (min (n * b + (dix b c).toNat) 4294967296)
def wv (b : Nat) (l : List UInt8) : Int := ((worthF b l 0).getD 0 : Nat)
def wok (b : Nat) (l : List UInt8) : Bool := (worthF b l 0).isSome && !l.isEmpty

theorem worth_app (b : Nat) : ∀ (l r : List UInt8) (n : Nat), worthF b (l ++ r) n = (worthF b l n).bind (worthF b r)
  | [], r, n => rfl
  | c :: l, r, n => by
    simp only [List.cons_append, worthF]
    split
    · rfl
    · exact worth_app b l r _
theorem worth_le (b : Nat) : ∀ (l : List UInt8) (n m : Nat), n ≤ 4294967296 → worthF b l n = some m → m ≤ 4294967296
  | [], n, m, hn, h => by simp [worthF] at h; omega
  | c :: l, n, m, hn, h => by
    simp only [worthF] at h
    split at h
    · cases h
    · exact worth_le b l _ m (by omega) h

theorem bytes_lt (s : ByteArray) (p : Nat) (h : p < s.size) : s.data.toList[p]? = some (s[p]'h) := Lib.data_getElem? s p h
theorem take_one (s : ByteArray) (p : Nat) (h : p < s.size) : s.data.toList.take (p + 1) = s.data.toList.take p ++ [s[p]'h] := by
  rw [List.take_add_one, bytes_lt s p h]; rfl
theorem take_all (s : ByteArray) : s.data.toList.take s.size = s.data.toList := List.take_of_length_le (by rw [← Lib.size_eq]; exact Nat.le_refl _)
theorem byte_in (s : ByteArray) (p : Nat) (h : p < s.size) : s[p]'h ∈ s.data.toList := List.mem_of_getElem? (bytes_lt s p h)
theorem empty_iff (s : ByteArray) : s.toList.isEmpty = s.data.toList.isEmpty := by rw [Lib.toList_data]

theorem isdigit_any (c : Int) (w : World) : Calls Tryz.prog 90 #[.int .i32 c] w fun e w' => e = .returned (.bool (decide (48 ≤ c) && decide (c ≤ 57))) ∧ w' = w := by
  by_cases h : 48 ≤ c
  · have h1 : decide (c ≥ 48) = true := by simpa using h
    have h2 : decide (48 ≤ c) = true := by simpa using h
    rw [h2]
    go_enter Tryz.func90, Tryz.ntmps90
    go_wp2
    go_ret
    exact ⟨rfl, rfl⟩
  · have h1 : decide (c ≥ 48) = false := by simpa using h
    have h2 : decide (48 ≤ c) = false := by simpa using h
    rw [h2]
    go_enter Tryz.func90, Tryz.ntmps90
    go_wp2
    go_ret
    exact ⟨rfl, rfl⟩

end Go.Proofs.YtecipogfdhpjfaaGreatDoor
