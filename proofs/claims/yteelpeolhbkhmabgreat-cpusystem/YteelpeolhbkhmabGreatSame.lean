/-
  The contract of 'Same' (are two lists of bytes one?) over the translation. No statement is proved here.
-/
import Derived.Test.YteelpeolhbkhmabGreatFrame
namespace Go.Proofs.YteelpeolhbkhmabGreat
open Go.RowKit

theorem take_eq_all' {a b : List UInt8} {n k : Nat} (ha : a.length = n) (hb : b.length = n) (hk : n ≤ k) (h : a.take k = b.take k) : a = b := by
  rwa [List.take_of_length_le (by omega), List.take_of_length_le (by omega)] at h

theorem ne_of_step {d0 d1 : List UInt8} {k : Nat} {x0 x1 : UInt8} (hx : ¬ x0 = x1) (h0 : d0.take (k + 1) = d0.take k ++ [x0]) (h1 : d1.take (k + 1) = d1.take k ++ [x1]) : ¬ d0 = d1 := by
  intro e
  subst e
  rw [h0] at h1
  have := List.append_cancel_left h1
  simp at this
  exact hx this

theorem src_at {w : World} {a : Addr} {d : List UInt8} (hp : 0 < d.length) (h : ∀ (j : Nat) (hj : j < d.length), w.cell? (a.add j) = some (U8 d[j])) :
    ∃ b o, a = ⟨b, o, none⟩ ∧ ∀ j, (hj : j < d.length) → w.cell? ⟨b, o + j, none⟩ = some (.int .u8 ((d[j].toNat : Nat) : Int)) := by
  obtain ⟨b, o, sp⟩ := a
  have hs := World.cell?_spot (h 0 hp)
  have hs' : sp = none := by simpa [Addr.add] using hs
  subst hs'
  refine ⟨b, o, rfl, fun j hj => ?_⟩
  have hadd : (⟨b, o, none⟩ : Addr).add j = ⟨b, o + j, none⟩ := by unfold Addr.add; split <;> simp_all
  have := h j hj
  rw [hadd] at this
  exact this

end Go.Proofs.YteelpeolhbkhmabGreat
