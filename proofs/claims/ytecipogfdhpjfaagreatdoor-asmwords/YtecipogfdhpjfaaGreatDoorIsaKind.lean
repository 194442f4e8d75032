/-
  The contracts of package isa's Kind and of the document's over the translation: whatever operation, its form's text. No statement is proved here.
-/
import Derived.Test.YtecipogfdhpjfaaGreatDoorRows
import Derived.Test.YtecipogfdhpjfaaGreatDoorIsaDefs
import Derived.Test.YtecipogfdhpjfaaGreatDoorIsaIter
import Derived.WalkKit
import Derived.WalkSpells
import Derived.WalkLawsBesides
import Derived.BigQuiet
import Derived.Deep.QuietTactic
namespace Go.Proofs.YtecipogfdhpjfaaGreatDoor
open Go.RowKit

def formsB : ByteArray := { data := ([97, 105, 32, 97, 98, 99, 32, 97, 98, 99, 32, 97, 98, 99, 32, 97, 98, 99, 32, 97, 98, 99, 32, 97, 98, 105, 32, 97, 98, 105, 32, 97, 98, 105, 32, 97, 98, 105, 32].append [97, 98, 105, 32, 97, 98, 105, 32, 97, 98, 105, 32, 105, 32, 97, 105, 32, 98, 32, 105, 32, 105, 32, 97, 105, 32, 98, 105, 32, 45, 32, 97, 32, 98, 32, 45, 32, 45, 32]).toArray }

def chr (p : Nat) : Nat := (formsB.data.toList.getD p 0).toNat
/-- Which operation is looked for at p, and where its form begins. -/
def atF (p : Nat) : Nat := ((formsB.data.toList.take p).count 32) + 1
def beF : Nat → Nat
  | 0 => 0
  | p + 1 => if chr p = 32 then p + 1 else beF p

theorem forms_size : formsB.size = 78 := by decide +kernel
theorem forms_lt : ∀ p : Nat, p < 78 → chr p < 128 := by decide +kernel
theorem forms_no : ∀ p : Nat, p < 78 → chr p ≠ 32 → atF (p + 1) = atF p ∧ beF (p + 1) = beF p := by decide +kernel
theorem forms_yes : ∀ p : Nat, p < 78 → chr p = 32 → atF (p + 1) = atF p + 1 ∧ beF (p + 1) = p + 1 ∧ beF p ≤ p ∧ atF p ≤ 25 ∧ (formsB.extract (beF p) p).data.toList = (fs (kf (atF p))).data.toList := by decide +kernel
theorem forms_end : atF 78 = 26 := by decide +kernel
theorem chr_eq (p : Nat) (h : p < formsB.size) : (formsB[p]'h).toNat = chr p := by
  unfold chr
  rw [List.getD_eq_getElem?_getD, List.getElem?_eq_getElem (by simpa using h)]
  rfl

theorem kf_none {op : Int} (h : op < 1 ∨ 26 ≤ op) : kf op = 0 := by
  unfold kf
  repeat' split
  all_goals omega

theorem slice_form (p : Nat) (hp : p < 78) (h : chr p = 32) : formsB.extract (beF p) p = fs (kf (atF p)) := by
  obtain ⟨_, _, _, _, e⟩ := forms_yes p hp h
  exact ByteArray.ext (Array.toList_inj.1 e)

set_option maxHeartbeats 1600000 in
set_option maxRecDepth 100000 in
theorem kind_any (op : Int) (w : World) : Calls Tryz.prog 21 #[.int .i64 op] w fun e w' => e = .returned (.string (fs (kf op))) ∧ Fr none' w w' := by
  go_enter Tryz.func21, Tryz.ntmps21
  go_wp2_with fail
  go_loopw [3, 4] (fun a b wr => ∃ p : Nat, p ≤ 78 ∧ a = .int .i64 (atF p) ∧ b = .int .i64 (beF p) ∧ (op < 1 ∨ (atF p : Int) ≤ op) ∧ Fr none' w wr ∧ It wr w.heap.size formsB p) (fun _ _ wr => 78 - itPos wr w.heap.size)
  case atStart => exact ⟨0, by omega, rfl, rfl, by rw [show atF 0 = 1 from rfl]; omega, (Fr.refl _ _).alloc _, it_new w formsB⟩
  case round =>
    obtain ⟨p, hp, rfl, rfl, ho, fk, ik⟩ := hrel
    have HP : Hid (p ≤ 78) := hp
    have HO : Hid (op < 1 ∨ (atF p : Int) ≤ op) := ho
    have M : itPos wr w.heap.size = p := ik.pos
    by_cases h78 : p = 78
    · subst h78
      have hn := fun ty => next_none (P := Tryz.prog) ik (by rw [forms_size]; omega) ty
      clear M hp ho ik
      go_wp2
      go_ret
      refine ⟨?_, fk⟩
      rw [kf_none (by have := HO.out; rw [forms_end] at this; omega)]
      rfl
    · have hlt : p < 78 := by omega
      have hs : p < formsB.size := by rw [forms_size]; exact hlt
      have hn := fun ty => next_some (P := Tryz.prog) ik hs (by rw [chr_eq]; exact forms_lt p hlt) ty
      rw [chr_eq] at hn
      have i2 := ik.set (p + 1)
      have f2 := fr_itset fk (Or.inl (Nat.le_refl _)) formsB (p + 1)
      have M2 : Hid (itPos (itSet wr w.heap.size formsB (p + 1)) w.heap.size = p + 1) := i2.pos
      have M1 : Hid (itPos wr w.heap.size = p) := M
      clear M hp ho ik fk hs h78
      have HL : Hid (p < 78) := hlt
      have I2 : Hid (It (itSet wr w.heap.size formsB (p + 1)) w.heap.size formsB (p + 1)) := i2
      clear hlt i2
      by_cases hc : chr p = 32
      · obtain ⟨g1, g2, g3, g4, g6⟩ := forms_yes p HL.out hc
        have g5 := slice_form p HL.out hc
        clear g6
        rw [hc] at hn
        by_cases he : (atF p : Int) = op
        · have t1 : ((atF p : Int) == op) = true := by simpa using he
          have HE : Hid ((atF p : Int) = op) := he
          have y1 : 0 ≤ (beF p : Int) ∧ (beF p : Int) ≤ (p : Int) := by omega
          have y2 : (p : Int) ≤ 78 := by have := HL.out; omega
          have G5 : Hid (formsB.extract (beF p) p = fs (kf (atF p))) := g5
          clear he g1 g2 g3 g4 hc g5
          go_wp2
          go_ret
          refine ⟨?_, f2⟩
          have e5 := G5.out
          rw [HE.out] at e5
          exact congrArg (fun s => Ending.returned (.string s)) e5
        · have t1 : ((atF p : Int) == op) = false := by simpa using he
          have HE : Hid (¬ (atF p : Int) = op) := he
          have G : Hid (atF (p + 1) = atF p + 1 ∧ beF (p + 1) = p + 1) := ⟨g1, g2⟩
          have y1 : (atF p : Int) ≤ 25 := by omega
          have y2 : (p : Int) < 78 := by have := HL.out; omega
          clear he g1 g2 g3 g4 hc g5
          go_wp2
          go_roundw
          case rel => exact ⟨p + 1, by have := HL.out; omega, by rw [G.out.1]; rfl, by rw [G.out.2]; rfl, by have := HO.out; have := HE.out; rw [G.out.1]; omega, f2, I2.out⟩
          case measure => rw [M2.out, M1.out]; have := HL.out; omega
      · obtain ⟨g1, g2⟩ := forms_no p HL.out hc
        have t1 : ((chr p : Int) != 32) = true := by simp; omega
        have G : Hid (atF (p + 1) = atF p ∧ beF (p + 1) = beF p) := ⟨g1, g2⟩
        clear hc g1 g2
        go_wp2
        go_roundw
        case rel => exact ⟨p + 1, by have := HL.out; omega, by rw [G.out.1], by rw [G.out.2], by have := HO.out; rw [G.out.1]; omega, f2, I2.out⟩
        case measure => rw [M2.out, M1.out]; have := HL.out; omega

set_option maxHeartbeats 1600000 in
theorem rkind_in (op : Int) (w : World) (h : 1 ≤ op ∧ op ≤ 25) : Calls Tryz.prog 50 #[.int .i64 op] w fun e w' => e = .returned (.string (fs (kf op))) ∧ w = w' := by
  rcases op_cases h with rfl | rfl | rfl | rfl | rfl | rfl | rfl | rfl | rfl | rfl | rfl | rfl | rfl | rfl | rfl | rfl | rfl | rfl | rfl | rfl | rfl | rfl | rfl | rfl | rfl
  all_goals clear h
  all_goals go_enter Tryz.func50, Tryz.ntmps50
  all_goals go_wp2
  all_goals go_ret
  all_goals exact ⟨rfl, rfl⟩

set_option maxHeartbeats 1600000 in
theorem rkind_out (op : Int) (w : World) (h : op < 1 ∨ 26 ≤ op) : Calls Tryz.prog 50 #[.int .i64 op] w fun e w' => e = .returned (.string (fs (kf op))) ∧ w = w' := by
  rw [kf_none h]
  have t1 : (op == 1) = false := by simp; omega
  have t2 : (op == 2) = false := by simp; omega
  have t3 : (op == 3) = false := by simp; omega
  have t4 : (op == 4) = false := by simp; omega
  have t5 : (op == 5) = false := by simp; omega
  have t6 : (op == 6) = false := by simp; omega
  have t7 : (op == 7) = false := by simp; omega
  have t8 : (op == 8) = false := by simp; omega
  have t9 : (op == 9) = false := by simp; omega
  have t10 : (op == 10) = false := by simp; omega
  have t11 : (op == 11) = false := by simp; omega
  have t12 : (op == 12) = false := by simp; omega
  have t13 : (op == 13) = false := by simp; omega
  have t14 : (op == 14) = false := by simp; omega
  have t15 : (op == 15) = false := by simp; omega
  have t16 : (op == 16) = false := by simp; omega
  have t17 : (op == 17) = false := by simp; omega
  have t18 : (op == 18) = false := by simp; omega
  have t19 : (op == 19) = false := by simp; omega
  have t20 : (op == 20) = false := by simp; omega
  have t21 : (op == 21) = false := by simp; omega
  have t22 : (op == 22) = false := by simp; omega
  have t23 : (op == 23) = false := by simp; omega
  have t24 : (op == 24) = false := by simp; omega
  have t25 : (op == 25) = false := by simp; omega
  clear h
  go_enter Tryz.func50, Tryz.ntmps50
  go_wp2
  go_ret
  exact ⟨rfl, rfl⟩

theorem rkind_any (op : Int) (w : World) : Calls Tryz.prog 50 #[.int .i64 op] w fun e w' => e = .returned (.string (fs (kf op))) ∧ w = w' := by
  by_cases h : 1 ≤ op ∧ op ≤ 25
  · exact rkind_in op w h
  · exact rkind_out op w (by omega)

end Go.Proofs.YtecipogfdhpjfaaGreatDoor
