/-
  The contract of package asm's item over the translation. No statement is proved here.
-/
import Derived.Test.YtecipogfdhpjfaaGreatDoorAsmOut
import Derived.Lib.Repeat
namespace Go.Proofs.YtecipogfdhpjfaaGreatDoor
open Go.RowKit

theorem rep_one (c : Nat) : Lib.repeatL [48] c = List.replicate c 48 := by
  induction c with
  | zero => rfl
  | succ k ih => rw [Lib.repeatL, ih]; rfl

theorem hex_len8 (x : Nat) (hx : x < 4294967296) : (hexS x).length ≤ 8 := hexS_len 7 x (by simpa using hx)

set_option maxHeartbeats 1000000 in
theorem item_raw (x : Nat) (hx : x < 4294967296) (hd : decOk (x : Int) = false) (w : World) (hE : Env w) :
    Calls Tryz.prog 19 #[.int .u32 (x : Int)] w fun e w' => e = .returned (strV (rawB x)) ∧ Fr none' w w' := by
  have hD := dec_any x w hx
  have h1 : dE (x : Int) = 50 := by simp [dE, hd]
  rw [h1] at hD
  have hl := hex_len8 x hx
  rw [raw_pad x hx]
  have hH := fun w hE => fmt_any x hx w hE
  obtain ⟨h, hh⟩ : ∃ h, hexS x = h := ⟨_, rfl⟩
  rw [hh] at hH hl ⊢
  have a1 := add_run wordB [32] (by decide)
  have a2 := add_run (wordB ++ [32]) [48, 120] (by decide)
  have a3 := add_run (wordB ++ [32] ++ [48, 120]) (List.replicate (8 - h.length) 48) (by simp [wordB]; omega)
  have a4 := add_run (wordB ++ [32] ++ [48, 120] ++ List.replicate (8 - h.length) 48) h (by simp [wordB]; omega)
  have M := fun w hE => mn_any 0 (by decide) w hE
  rw [show mnL 0 = wordB from rfl] at M
  have hz : h.length = (⟨h.toArray⟩ : ByteArray).size := by simp [ByteArray.size]
  have hs : IntKind.i64.wrap (8 - (h.length : Int)) = ((8 - h.length : Nat) : Int) := by
    simp only [IntKind.wrap, IntKind.bits, IntKind.signed]
    simp
    omega
  have hR := fun w => Tryz.strings_Repeat ⟨#[48]⟩ (8 - h.length) w (by omega) (by have : (⟨#[48]⟩ : ByteArray).size = 1 := rfl; rw [this]; omega)
  have hrep : Lib.repeatL (⟨#[48]⟩ : ByteArray).data.toList (8 - h.length) = List.replicate (8 - h.length) 48 := rep_one _
  simp only [hrep] at hR
  obtain ⟨sW, hW⟩ : ∃ s : ByteArray, s = ⟨wordB.toArray⟩ := ⟨_, rfl⟩
  obtain ⟨s1, h1'⟩ : ∃ s : ByteArray, s = ⟨(wordB ++ [32]).toArray⟩ := ⟨_, rfl⟩
  obtain ⟨s2, h2'⟩ : ∃ s : ByteArray, s = ⟨(wordB ++ [32] ++ [48, 120]).toArray⟩ := ⟨_, rfl⟩
  obtain ⟨s3, h3'⟩ : ∃ s : ByteArray, s = ⟨(wordB ++ [32] ++ [48, 120] ++ List.replicate (8 - h.length) 48).toArray⟩ := ⟨_, rfl⟩
  obtain ⟨s4, h4'⟩ : ∃ s : ByteArray, s = ⟨(wordB ++ [32] ++ [48, 120] ++ List.replicate (8 - h.length) 48 ++ h).toArray⟩ := ⟨_, rfl⟩
  obtain ⟨sR, hR'⟩ : ∃ s : ByteArray, s = ⟨(List.replicate (8 - h.length) 48).toArray⟩ := ⟨_, rfl⟩
  obtain ⟨sH, hH'⟩ : ∃ s : ByteArray, s = ⟨h.toArray⟩ := ⟨_, rfl⟩
  have EQ : Hid (Ending.returned (.string s4) = .returned (strV ([119, 111, 114, 100, 32, 48, 120] ++ (List.replicate (8 - h.length) 48 ++ h)))) := by
    show Ending.returned (.string s4) = .returned (strV ([119, 111, 114, 100, 32, 48, 120] ++ (List.replicate (8 - h.length) 48 ++ h)))
    rw [h4']; simp [wordB]
  simp only [strV] at M a1 a2 a3 a4 hH
  rw [← hW] at a1 M
  rw [← h1'] at a1 a2
  rw [← h2'] at a2 a3
  rw [← h3', ← hR'] at a3
  rw [← h3', ← h4', ← hH'] at a4
  simp only [← hR'] at hR
  rw [← hH'] at hz hH
  have hs2 : IntKind.i64.wrap (8 - (sH.size : Int)) = ((8 - h.length : Nat) : Int) := by rw [← hz]; exact hs
  obtain ⟨nn, hnn⟩ : ∃ nn : Nat, 8 - h.length = nn := ⟨_, rfl⟩
  rw [hnn] at hs2 hR
  clear hW h1' h2' h3' h4' hR' hH' hs hz hl hnn
  clear hrep hh h1 hd
  go_enter Tryz.func19, Tryz.ntmps19
  go_wp2_with fail
  refine hD.mono ?_
  rintro e w1 ⟨rfl, f1⟩
  replace f1 := f1.alloc (.cells #[.int .i64 (dOp (x : Int)), .int .i64 (dA (x : Int)), .int .i64 (dB (x : Int)), .int .i64 (dC (x : Int)), .int .i64 (dI (x : Int))] 46)
  clear hD
  go_wp2_with fail
  refine (hH _ (hE.keep f1)).mono ?_
  rintro e w2 ⟨rfl, f2⟩
  replace f1 := f1.trans f2
  clear f2 hH
  go_wp2_with fail
  refine (M _ (hE.keep f1)).mono ?_
  rintro e w3 ⟨rfl, f2⟩
  replace f1 := f1.trans f2
  clear f2
  go_wp2_with fail
  refine (hR _).mono ?_
  rintro e w4 ⟨rfl, f2⟩
  replace f1 := f1.trans (fr_below f2)
  go_wp2_with fail
  go_ret
  exact ⟨EQ.out, f1⟩

end Go.Proofs.YtecipogfdhpjfaaGreatDoor
