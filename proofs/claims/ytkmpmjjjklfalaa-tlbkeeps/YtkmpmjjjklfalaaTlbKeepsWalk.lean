/-
  TlbKeeps over the translation: whatever acts, number and line came in, the law returns true, and nothing old turns. No statement is proved here.
-/
import Derived.Test.YtkmpmjjjklfalaaTlbKeepBad
import Derived.Test.YtkmpmjjjklfalaaTlbKeepOk
namespace Go.Proofs.Ytkmpmjjjklfalaa
open Go.RowKit

theorem keeps_any (a0 : Option Addr) (len cap : Nat) (i : Int) (x : Ln) (w : World) (hl : len ≤ 9223372036854775807) (ha : Acts w a0 len) :
    Calls Try.prog 7 #[.slice a0 len cap, .int .i64 i, .agg #[.int .i64 x.v, .int .i64 x.a, .int .i64 x.p, .int .i64 x.f, .int .i64 x.r]] w fun e w' => e = .returned (.bool true) ∧ Below w.heap.size w w' := by
  have key : Calls Try.prog 7 #[.slice a0 len cap, .int .i64 i, .agg #[.int .i64 x.v, .int .i64 x.a, .int .i64 x.p, .int .i64 x.f, .int .i64 x.r]] w fun e w' => e = .returned (.bool true) ∧ Fr none' w w' := by
    cases hi : inB i 0 7 with
    | false => exact keeps_bad a0 len cap i x w hl ha (by simp [fillE, hi]) (fun T => by simp [fillT, hi])
    | true =>
      cases hx : rightL x with
      | false => exact keeps_bad a0 len cap i x w hl ha (by simp [fillE, hi, hx]) (fun T => by simp [fillT, hx])
      | true =>
        obtain ⟨k, rfl, hk⟩ := inB_nat hi
        exact keeps_ok a0 len cap k x w hl ha hk hx
  exact key.mono fun _ _ ⟨he, hf⟩ => ⟨he, hf.below (Nat.le_refl _) (fun _ h => h.elim)⟩

end Go.Proofs.Ytkmpmjjjklfalaa
