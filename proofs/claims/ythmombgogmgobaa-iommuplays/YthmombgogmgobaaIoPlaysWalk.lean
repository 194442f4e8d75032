/-
  The walk of the law IommuPlays over the translation: it answers true. No statement is proved here.
-/
import Derived.Test.YthmombgogmgobaaIoSame
import Derived.Test.YthmombgogmgobaaIoAwake
import Derived.Test.YthmombgogmgobaaIoOpen
namespace Go.Proofs.Ythmombgogmgobaa
open Go.RowKit

/-- What lies beneath is as it was, where what turned is new. -/
theorem ChgU.fr {w wa wb : World} {U U' : Nat → Prop} (f : Fr none' w wa) (u : ChgU wa U wb U') (h : ∀ k, U k → w.heap.size ≤ k) : Fr none' w wb ∧ ∀ k, U' k → w.heap.size ≤ k :=
  ⟨⟨u.1.os.trans f.os, u.1.tape.trans f.tape, u.1.output.trans f.output, Nat.le_trans f.size u.1.size, fun i hi hn => (u.1.block i (Nat.lt_of_lt_of_le hi f.size) (fun e => by have := h i e; omega)).trans (f.block i hi hn)⟩, fun k hk => by
    rcases u.2 k hk with e | e
    · exact h k e
    · exact Nat.le_trans f.size e⟩

set_option maxHeartbeats 4000000 in
set_option maxRecDepth 100000 in
theorem ioplays_any (a0 : Option Addr) (len cap : Nat) (a1 : Option Addr) (len1 cap1 : Nat) (w : World) (hl : len ≤ 9223372036854775807) (hP : ∃ P, Pqs w a0 len P) (hl1 : len1 ≤ 9223372036854775807) (hA : ∃ A, Aqs w a1 len1 A) :
    Calls Try.prog 3 #[.slice a0 len cap, .slice a1 len1 cap1] w fun e w' => e = .returned (.bool true) ∧ Below w.heap.size w w' := by
  obtain ⟨P, hP⟩ := hP
  obtain ⟨A, hA⟩ := hA
  have HA : Hid (Aqs w a1 len1 A) := hA
  clear hA
  go_enter Try.func3, Try.ntmps3
  go_wp2_with fail
  refine (ioawake_any _).mono ?_
  rintro e w1 ⟨rfl, f1⟩
  replace hP := hP.keep f1
  go_wp2_with fail
  refine (iomade_any _ a0 len cap P hl hP).mono ?_
  rintro e w2 ⟨x, U, rfl, f2, hB, hU⟩
  have F : Fr none' w w2 := f1.trans f2
  replace hU : ∀ k, U k → w.heap.size ≤ k := fun k hk => Nat.le_trans f1.size (hU k hk)
  clear f1 f2 hP
  go_wp2_with fail
  go_loopw [7] (fun i wr => ∃ (k : Nat) (U : Nat → Prop) (bs : List UInt8) (S : Io), k ≤ len1 ∧ k ≤ 150 ∧ i = .int .i64 k ∧ Fr none' w wr ∧ IsBo wr x U bs S ∧ ∀ j, U j → w.heap.size ≤ j) (fun i _ => 150 - (intOf i).toNat)
  case atStart => exact ⟨0, U, _, _, by omega, by omega, rfl, F, hB, hU⟩
  case round =>
    clear F hB hU
    obtain ⟨k, U, bs, S, hk, hk2, rfl, F, hB, hU⟩ := hrel
    by_cases hlt : k < len1
    · by_cases hlt2 : k < 150
      · obtain ⟨b, o, rfl, ak⟩ := HA.out k hlt
        replace ak := ak.keep F (fun h => h)
        have i1 : 0 ≤ (k : Int) ∧ (k : Int) < (len1 : Int) := by omega
        have uk1 : decide ((k : Int) < (len1 : Int)) = true := decide_eq_true (by omega)
        have uk2 : decide ((k : Int) < 150) = true := decide_eq_true (by omega)
        obtain ⟨c0, c1, c2, c3, c4, ⟨c5, c6, c7, c8, c9, c10⟩, hb⟩ := ak
        go_wp2_with fail
        refine (does_any _ _ _ _ _ (A k) hb hB).mono ?_
        rintro e w3 ⟨rfl, U1, hB1, u1⟩
        obtain ⟨F1, hU1⟩ := u1.fr F hU
        clear c0 c1 c2 c3 c4 c5 c6 c7 c8 c9 c10 hb u1 F hU hB
        go_wp2_with fail
        refine (iosame_any _ _ _ _ _ hB1).mono ?_
        rintro e w4 ⟨rfl, f4⟩
        have H' : Hid (Fr none' w w4 ∧ IsBo w4 x U1 (actB bs S (A k)) (actS bs S (A k)) ∧ ∀ j, U1 j → w.heap.size ≤ j) := ⟨F1.trans f4, hB1.keep0 f4, hU1⟩
        clear f4 F1 hB1 hU1
        go_wp2_with fail
        go_roundw
        case rel => exact ⟨k + 1, U1, _, _, by omega, by omega, by go_num, H'.out.1, H'.out.2.1, H'.out.2.2⟩
        case measure => simp [intOf]; omega
      · obtain rfl : k = 150 := by omega
        have uk1 : decide (((150 : Nat) : Int) < (len1 : Int)) = true := decide_eq_true (by omega)
        go_wp2_with fail
        go_ret
        exact ⟨rfl, F.below (Nat.le_refl _) (fun _ h => h.elim)⟩
    · obtain rfl : k = len1 := by omega
      go_wp2_with fail
      go_ret
      exact ⟨rfl, F.below (Nat.le_refl _) (fun _ h => h.elim)⟩

end Go.Proofs.Ythmombgogmgobaa
