/-
  The walk of the law IommuConfined over the translation, reads and writes together. No statement is proved here.
-/
import Derived.Test.YthmombgogmgobaaIoConfW
namespace Go.Proofs.Ythmombgogmgobaa
open Go.RowKit

theorem ioconf_any (a0 : Option Addr) (len cap : Nat) (a1 : Option Addr) (len1 cap1 : Nat) (s ad : Int) (fl : Bool) (b : Nat) (w : World) (hl : len ≤ 9223372036854775807) (hP : ∃ P, Pqs w a0 len P) (hl1 : len1 ≤ 9223372036854775807) (hA : ∃ A, Aqs w a1 len1 A) (hb : b < 256) (had : -9223372036854775808 ≤ ad ∧ ad ≤ 9223372036854775807) :
    Calls Try.prog 4 #[.slice a0 len cap, .slice a1 len1 cap1, .int .i64 s, .int .i64 ad, .bool fl, .int .u8 (b : Int)] w fun e w' => e = .returned (.bool true) ∧ Below w.heap.size w w' := by
  cases fl with
  | false => exact ioconf_r a0 len cap a1 len1 cap1 s ad b w hl hP hl1 hA hb had
  | true => exact ioconf_w a0 len cap a1 len1 cap1 s ad b w hl hP hl1 hA hb had

end Go.Proofs.Ythmombgogmgobaa
