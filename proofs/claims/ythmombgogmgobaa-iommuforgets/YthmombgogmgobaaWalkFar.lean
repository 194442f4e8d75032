/-
  Plain facts: a byte laid into a frame leaves the half words of all other frames; a walk hangs on the half words of its tables alone. No program, no statement.
-/
import Derived.Test.YthmombgogmgobaaWalkPure
namespace Go.Proofs.Ythmombgogmgobaa
open Go.RowKit

theorem half_far (bs : List UInt8) (a v t i : Nat) (h : a + 1 ≤ bs.length) (hi : i < 32) (hn : a / 64 ≠ t) : half (putAt bs a (bytesOf 1 v)) t i = half bs t i := by
  unfold half
  congr 1
  apply List.ext_getElem?
  intro j
  rw [List.getElem?_take, List.getElem?_take]
  by_cases hj : j < 2
  · rw [if_pos hj, if_pos hj, List.getElem?_drop, List.getElem?_drop, putAt_get? _ _ _ (by rw [length_bytesOf]; exact h), length_bytesOf, if_neg (by omega)]
  · rw [if_neg hj, if_neg hj]

theorem single_blind {bs bs' : List UInt8} {nf : Nat} {root page : Int} (h0 : ∀ i : Nat, i < 32 → half bs' root.toNat i = half bs root.toNat i)
    (h1 : isP page = true → entK bs nf root page 0 = 0 → ∀ i : Nat, i < 32 → half bs' (df (ew bs root page 0)).toNat i = half bs (df (ew bs root page 0)).toNat i) : single bs' nf root page = single bs nf root page := by
  cases hp : isP page with
  | false => unfold single; rw [if_pos hp, if_pos hp]
  | true =>
    have hq := isP_iff.1 hp
    have i0 : idxOf page 0 = page / 32 := by unfold idxOf; rw [if_neg (by omega), if_pos rfl]
    have i1 : idxOf page 1 = page % 32 := by unfold idxOf; rw [if_neg (by omega), if_neg (by omega), if_pos rfl]
    have e0 : ew bs' root page 0 = ew bs root page 0 := by unfold ew; rw [h0 _ (by rw [i0]; omega)]
    have k0 : entK bs' nf root page 0 = entK bs nf root page 0 := by unfold entK; rw [e0]
    by_cases hk : entK bs nf root page 0 = 0
    · have e1 : ew bs' (df (ew bs root page 0)) page 1 = ew bs (df (ew bs root page 0)) page 1 := by
        have := h1 hp hk (idxOf page 1).toNat (by rw [i1]; omega)
        have g : ∀ z : Int, half bs' z.toNat (idxOf page 1).toNat = half bs z.toNat (idxOf page 1).toNat → ew bs' z page 1 = ew bs z page 1 := fun z hz => by unfold ew; rw [hz]
        exact g _ this
      have k1 : entK bs' nf (df (ew bs root page 0)) page 1 = entK bs nf (df (ew bs root page 0)) page 1 := by unfold entK; rw [e1]
      unfold single
      rw [e0, k0, k1, e1]
    · unfold single
      rw [k0, if_neg (by simp [hp]), if_pos hk, if_neg (by simp [hp]), if_pos hk]

/-- A byte laid into a frame that is none of a walk's tables is not seen by it. -/
theorem store_blind {bs : List UInt8} {root page addr : Int} {v : Nat} (hl : bs.length = 64 * 16) (ha : 0 ≤ addr) (hr : addr / 64 ≠ root)
    (hd : isP page = true → entK bs 16 root page 0 = 0 → addr / 64 ≠ df (ew bs root page 0)) : single (storeB bs addr 1 16 v) 16 root page = single bs 16 root page := by
  unfold storeB
  by_cases he : errOf addr 1 16 = 0
  · rw [if_pos he]
    obtain ⟨_, _, h0, h1⟩ := err_zero he
    have hlen : addr.toNat + 1 ≤ bs.length := by omega
    by_cases hroot : 0 ≤ root
    · refine single_blind (fun i hi => half_far bs addr.toNat v root.toNat i hlen hi (by omega)) (fun hp hk i hi => ?_)
      have hx := ew_range bs root page 0
      have hf := df_range hx.1 hx.2
      have := hd hp hk
      exact half_far bs addr.toNat v _ i hlen hi (by omega)
    · have out : ∀ c : List UInt8, entK c 16 root page 0 = 3 := fun c => by unfold entK; rw [if_pos (Or.inl (by omega))]
      unfold single
      rw [out, out]
      simp
  · rw [if_neg he]

end Go.Proofs.Ythmombgogmgobaa
