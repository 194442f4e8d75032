/-
  The contract of the document's 'entry' (package viceroyref04) over the translation, said of the memory's half words. No statement is proved here.
-/
import Derived.Test.YteelpeolhbkhmabGreatWalkVal
import Derived.Test.YteelpeolhbkhmabGreatRefMem
namespace Go.Proofs.YteelpeolhbkhmabGreat
open Go.RowKit

theorem idx_small {page lvl : Int} (hp : isP page = true) (hl : lvl = 0 ∨ lvl = 1) : ∃ i : Nat, idxOf page lvl = (i : Int) ∧ i < 32 := by
  have h := isP_iff.1 hp
  rcases hl with rfl | rfl
  · refine ⟨(page / 32).toNat, ?_, by omega⟩
    unfold idxOf; rw [if_neg (by omega), if_pos rfl]; omega
  · refine ⟨(page % 32).toNat, ?_, by omega⟩
    unfold idxOf; rw [if_neg (by omega), if_neg (by omega), if_pos rfl]; omega

theorem ew_half {bs : List UInt8} {t i : Nat} {page lvl : Int} (hi : idxOf page lvl = (i : Int)) : ew bs (t : Int) page lvl = ((half bs t i : Nat) : Int) := by
  simp [ew, hi]

theorem dv_ok {x : Int} (h : dv x = true) : decOk x = true := by
  unfold dv at h
  cases hd : decOk x <;> simp_all

theorem de_ok {x : Int} (h : dv x = true) : de x = 0 := by unfold de; rw [dv_ok h]; rfl

end Go.Proofs.YteelpeolhbkhmabGreat
