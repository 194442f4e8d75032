/-
  Half words of tables, before and behind a store of one: plain facts on lists of bytes. No program, no statement.
-/
import Derived.Test.YtgnoakidjnilpaaGreatPteMem
namespace Go.Proofs.YtgnoakidjnilpaaGreat
open Go.RowKit

theorem half_same (bs : List UInt8) (t i v : Nat) (h : t * 64 + i * 2 + 2 ≤ bs.length) : half (putAt bs (t * 64 + i * 2) (bytesOf 2 v)) t i = v % 65536 := by
  unfold half
  have := num_stored bs (t * 64 + i * 2) 2 v h
  simpa using this

theorem half_other (bs : List UInt8) (t i v t' i' : Nat) (hi : i < 32) (hi' : i' < 32) (h : t * 64 + i * 2 + 2 ≤ bs.length) (hn : ¬ (t' = t ∧ i' = i)) : half (putAt bs (t * 64 + i * 2) (bytesOf 2 v)) t' i' = half bs t' i' := by
  unfold half
  congr 1
  apply List.ext_getElem?
  intro j
  rw [List.getElem?_take, List.getElem?_take]
  by_cases hj : j < 2
  · rw [if_pos hj, if_pos hj, List.getElem?_drop, List.getElem?_drop, putAt_get? _ _ _ (by rw [length_bytesOf]; exact h), length_bytesOf, if_neg (by omega)]
  · rw [if_neg hj, if_neg hj]

theorem numOf_zeros : ∀ n, numOf (List.replicate n 0) = 0
  | 0 => rfl
  | n + 1 => by rw [List.replicate_succ, numOf, numOf_zeros n]; rfl

theorem half_zeros (n t i : Nat) : half (List.replicate n 0) t i = 0 := by
  unfold half
  rw [List.drop_replicate, List.take_replicate]
  exact numOf_zeros _

/-- All half words of nf tables are entries'. -/
def Good (bs : List UInt8) (nf : Nat) : Prop := ∀ t i, t < nf → i < 32 → decOk (half bs t i) = true

theorem good_zeros (n nf : Nat) : Good (List.replicate n 0) nf := fun t i _ _ => by rw [half_zeros]; rfl

theorem putE_zero {t i : Int} {nf : Nat} {v l : Bool} {r f : Int} : putE t i nf v l r f = 0 ↔ placeE t i nf = 0 ∧ rightE v l r f = true := by
  unfold putE encE
  by_cases h : placeE t i nf = 0
  · rw [if_pos h]
    by_cases hr : rightE v l r f = true
    · rw [if_pos hr]; exact ⟨fun _ => ⟨h, hr⟩, fun _ => rfl⟩
    · rw [if_neg hr]; exact ⟨fun e => by omega, fun e => absurd e.2 hr⟩
  · rw [if_neg h]; exact ⟨fun e => absurd e h, fun e => absurd e.1 h⟩

theorem length_putB (bs : List UInt8) (t i : Int) (nf : Nat) (v l : Bool) (r f : Int) : (putB bs t i nf v l r f).length = bs.length := by
  unfold putB; split
  · rw [length_putAt]
  · rfl

theorem half_own {bs : List UInt8} {t i : Int} {nf : Nat} {v l : Bool} {r f : Int} {k j : Nat} (hl : bs.length = 64 * nf) (he : putE t i nf v l r f = 0) (hk : (k : Int) = t) (hj : (j : Int) = i) : ((half (putB bs t i nf v l r f) k j : Nat) : Int) = wordE v l r f := by
  obtain ⟨hp, hr⟩ := putE_zero.1 he
  obtain ⟨a, b, rfl, rfl, ha, hb⟩ := place_cases hp
  obtain rfl : k = a := by omega
  obtain rfl : j = b := by omega
  have hw := word_bounds hr
  unfold putB
  rw [if_pos ⟨hp, hr⟩, Int.toNat_natCast, Int.toNat_natCast, half_same bs k j _ (by omega)]
  omega

theorem half_else {bs : List UInt8} {t i : Int} {nf : Nat} {v l : Bool} {r f : Int} {k j : Nat} (hl : bs.length = 64 * nf) (hj : j < 32) (hn : ¬ (putE t i nf v l r f = 0 ∧ (k : Int) = t ∧ (j : Int) = i)) : half (putB bs t i nf v l r f) k j = half bs k j := by
  unfold putB
  by_cases hc : placeE t i nf = 0 ∧ rightE v l r f = true
  · rw [if_pos hc]
    obtain ⟨a, b, rfl, rfl, ha, hb⟩ := place_cases hc.1
    rw [Int.toNat_natCast, Int.toNat_natCast]
    have he := putE_zero.2 hc
    exact half_other bs a b _ k j hb hj (by omega) (fun e => hn ⟨he, by omega, by omega⟩)
  · rw [if_neg hc]

theorem good_put {bs : List UInt8} {t i : Int} {nf : Nat} {v l : Bool} {r f : Int} (hl : bs.length = 64 * nf) (h : Good bs nf) : Good (putB bs t i nf v l r f) nf := fun k j hk hj => by
  by_cases hn : putE t i nf v l r f = 0 ∧ (k : Int) = t ∧ (j : Int) = i
  · rw [half_own hl hn.1 hn.2.1 hn.2.2]; exact dec_enc (putE_zero.1 hn.1).2
  · rw [half_else hl hj hn]; exact h k j hk hj

end Go.Proofs.YtgnoakidjnilpaaGreat
