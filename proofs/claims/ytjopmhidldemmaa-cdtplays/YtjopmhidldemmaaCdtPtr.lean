/-
  Two pointers to places compared. No statement is proved here.
-/
import Derived.Test.YtjopmhidldemmaaCdtVal
import Derived.LaidEql
namespace Go.Proofs.Ytjopmhidldemmaa
open Go.RowKit

theorem equal_ptr {a b : Nat} {w : World} {ca cb : Array Value} {ta tb : TypeId} (ra : Row w a ca ta) (rb : Row w b cb tb) : (Op.equal 45 (pv a) (pv b)).run Try.prog w = .ok (decide (a = b)) w := by
  have hs : (sameAddr ⟨a, 0, none⟩ ⟨b, 0, none⟩).run Try.prog w = .ok (decide (a = b)) w := by
    by_cases e : a = b
    · subst e
      rw [run_sameAddr_same]
      simp
    · rw [run_sameAddr_other w (a := ⟨a, 0, none⟩) (b := ⟨b, 0, none⟩) (fun h => e (congrArg Addr.block h)) ra rb]
      simp [e]
  unfold Op.equal
  show (Op.equalIn (9999 + 1) _ _ _).run Try.prog w = _
  unfold Op.equalIn
  simp [run_underlying Try.underlying45, Result.andThen, hs]

theorem neq_ptr {a b : Nat} {w : World} {ca cb : Array Value} {ta tb : TypeId} (ra : Row w a ca ta) (rb : Row w b cb tb) : (binOp .neq 45 (pv a) (pv b)).run Try.prog w = .ok (.bool (decide (a ≠ b))) w := by
  have := equal_ptr ra rb
  simp [go_sem, binOp, this, Result.andThen]

end Go.Proofs.Ytjopmhidldemmaa
