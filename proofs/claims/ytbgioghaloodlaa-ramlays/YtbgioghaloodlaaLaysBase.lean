/-
  What the walk of the law RamLays leans on: which bytes a lay and a clear leave in a frame. No statement is proved here.
-/
import Derived.Test.YtbgioghaloodlaaApartWalk
namespace Go.Proofs.Ytbgioghaloodlaa
open Go.RowKit

theorem frameOf_get? (bs : List UInt8) (n k : Nat) (hk : k < 64) : (frameOf bs n)[k]? = bs[n * 64 + k]? := by
  simp [frameOf, hk]

/-- What was laid stands at the frame's begin. -/
theorem lay_own (bs data : List UInt8) (n k : Nat) (hb : bs.length = 64 * 4) (hn : n < 4) (hd : data.length ≤ 64) (hk : k < data.length) : (frameOf (putAt bs (n * 64) data) n)[k]? = data[k]? := by
  rw [frameOf_get? _ _ _ (by omega), putAt_get? _ _ _ (by omega), if_pos (by omega), show n * 64 + k - n * 64 = k by omega]

/-- The rest of the frame stays. -/
theorem lay_rest (bs data : List UInt8) (n k : Nat) (hb : bs.length = 64 * 4) (hn : n < 4) (hd : data.length ≤ 64) (hk : data.length ≤ k) (hk' : k < 64) : (frameOf (putAt bs (n * 64) data) n)[k]? = (frameOf bs n)[k]? := by
  rw [frameOf_get? _ _ _ hk', frameOf_get? _ _ _ hk', putAt_get? _ _ _ (by omega), if_neg (by omega)]

/-- A frame that is cleared is noughts. -/
theorem clear_own (bs : List UInt8) (o : Nat) (hb : bs.length = 64 * 4) (ho : o < 4) : frameOf (putAt bs (o * 64) (List.replicate 64 0)) o = List.replicate 64 0 := by
  have hl : (frameOf (putAt bs (o * 64) (List.replicate 64 0)) o).length = 64 := length_frameOf _ o 4 (by rw [length_putAt]; exact hb) ho
  apply List.ext_getElem?
  intro k
  by_cases hk : k < 64
  · exact lay_own bs (List.replicate 64 0) o k hb ho (by simp) (by simpa using hk)
  · rw [List.getElem?_eq_none (by omega), List.getElem?_eq_none (by simp; omega)]

/-- And no other one is. -/
theorem clear_other (bs : List UInt8) (o n : Nat) (hb : bs.length = 64 * 4) (ho : o < 4) (hn : n < 4) (hne : o ≠ n) : frameOf (putAt bs (o * 64) (List.replicate 64 0)) n = frameOf bs n := by
  have h1 : (frameOf (putAt bs (o * 64) (List.replicate 64 0)) n).length = 64 := length_frameOf _ n 4 (by rw [length_putAt]; exact hb) hn
  have h2 : (frameOf bs n).length = 64 := length_frameOf _ n 4 hb hn
  apply List.ext_getElem?
  intro k
  by_cases hk : k < 64
  · rw [frameOf_get? _ _ _ hk, frameOf_get? _ _ _ hk, putAt_get? _ _ _ (by simp; omega), if_neg (by simp; omega)]
  · rw [List.getElem?_eq_none (by omega), List.getElem?_eq_none (by omega)]

/-- A byte of a frame that was told. -/
theorem row_at {w : World} {g : Nat} {d : List UInt8} {t : TypeId} (h : Row w g (byteVals d) t) (k : Nat) (hk : k < d.length) : w.cell? ⟨g, k, none⟩ = some (.int .u8 ((d[k].toNat : Nat) : Int)) := by
  rw [h.cell, byteVals_get d k hk]; rfl

theorem zeros_all {w : World} {g : Nat} {t : TypeId} (h : Row w g (byteVals (List.replicate 64 0)) t) : Hid (∀ k, k < 64 → w.cell? ⟨g, k, none⟩ = some (.int .u8 0)) := fun k hk => by
  have := row_at h k (by rw [List.length_replicate]; exact hk)
  rw [List.getElem_replicate] at this
  exact this

end Go.Proofs.Ytbgioghaloodlaa
