/-
  Contracts of the document's Fill over the translation, of a buffer whose entries are empty or right. No statement is proved here.
-/
import Derived.Test.YteelpeolhbkhmabGreatTlbRef
namespace Go.Proofs.YteelpeolhbkhmabGreat
open Go.RowKit

/-- One entry emptied is the page wiped, where no page stands twice. -/
theorem wipe_one {T : Nat → Ln} {x : Ln} {i : Nat} (hU : Uniq T) (hi : i < 8) (hh : hit x.v x.a x.p (T i) = true) (j : Nat) (hj : j < 8) : upd T i zl j = wipe (fun l => key l x) T j := by
  have hh' : emp (T i) = false ∧ key (T i) x = true := by
    have : (!emp (T i) && key (T i) x) = true := hh
    simpa using this
  by_cases hji : j = i
  · subst hji
    simp [upd_same, wipe, goes, hh']
  · rw [upd_other _ _ hji]
    have hg : goes (fun l => key l x) (T j) = false := by
      cases hg : goes (fun l => key l x) (T j) with
      | false => rfl
      | true =>
        have hg' : emp (T j) = false ∧ key (T j) x = true := by simpa [goes] using hg
        refine absurd (hU i j hi hj hh'.1 hg'.1 ?_) (fun e => hji e.symm)
        have a1 := key_iff.mp hh'.2
        have a2 := key_iff.mp hg'.2
        exact key_iff.mpr ⟨a1.1.trans a2.1.symm, a1.2.1.trans a2.2.1.symm, a1.2.2.trans a2.2.2.symm⟩
    simp [wipe, hg]

theorem wipe_none {T : Nat → Ln} {x : Ln} (hn : ∀ j, j < 8 → hit x.v x.a x.p (T j) = false) (j : Nat) (hj : j < 8) : T j = wipe (fun l => key l x) T j := by
  have hg : goes (fun l => key l x) (T j) = false := hn j hj
  simp [wipe, hg]

theorem upd_congr {T T' : Nat → Ln} (k : Nat) (l : Ln) (h : ∀ j, j < 8 → T j = T' j) (j : Nat) (hj : j < 8) : upd T k l j = upd T' k l j := by
  by_cases hjk : j = k
  · subst hjk; rw [upd_same, upd_same]
  · rw [upd_other _ _ hjk, upd_other _ _ hjk, h j hj]

end Go.Proofs.YteelpeolhbkhmabGreat
