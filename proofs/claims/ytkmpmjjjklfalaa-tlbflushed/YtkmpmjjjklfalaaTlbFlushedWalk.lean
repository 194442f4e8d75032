/-
  TlbFlushed over the translation: whatever acts, kind and numbers came in, the law returns true, and nothing old turns. No statement is proved here.
-/
import Derived.Test.YtkmpmjjjklfalaaTlbFlPage
import Derived.Test.YtkmpmjjjklfalaaTlbFlAsid
import Derived.Test.YtkmpmjjjklfalaaTlbFlVmid
namespace Go.Proofs.Ytkmpmjjjklfalaa
open Go.RowKit

theorem flushed_any (a0 : Option Addr) (len cap : Nat) (kind vm num : Int) (w : World) (hl : len ≤ 9223372036854775807) (ha : Acts w a0 len) :
    Calls Try.prog 6 #[.slice a0 len cap, .int .i64 kind, .int .i64 vm, .int .i64 num] w fun e w' => e = .returned (.bool true) ∧ Below w.heap.size w w' := by
  have key : Calls Try.prog 6 #[.slice a0 len cap, .int .i64 kind, .int .i64 vm, .int .i64 num] w fun e w' => e = .returned (.bool true) ∧ Fr none' w w' := by
    by_cases h0 : kind = 0
    · subst h0; exact flushed_page a0 len cap vm num w hl ha
    by_cases h1 : kind = 1
    · subst h1; exact flushed_asid a0 len cap vm num w hl ha
    exact flushed_vmid a0 len cap kind (beq_eq_false_iff_ne.mpr h0) (beq_eq_false_iff_ne.mpr h1) vm num w hl ha
  exact key.mono fun _ _ ⟨he, hf⟩ => ⟨he, hf.below (Nat.le_refl _) (fun _ h => h.elim)⟩

end Go.Proofs.Ytkmpmjjjklfalaa
