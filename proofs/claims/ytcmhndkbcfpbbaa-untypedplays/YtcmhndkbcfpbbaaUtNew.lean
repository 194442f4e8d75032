/-
  Both pools and memories as the laws make them. No statement is proved here.
-/
import Derived.Test.YtcmhndkbcfpbbaaUtDoes
import Derived.Test.YtcmhndkbcfpbbaaUtAwake
namespace Go.Proofs.Ytcmhndkbcfpbbaa
open Go.RowKit

theorem bo_new {w1 w2 w3 w5 : World} {bp : Nat} {O : Nat → Prop} {bs : List UInt8} (P : Po w1 w2 bp [] O) (f3 : Fr none' w2 w3) (m : IsRam w3 (w2.heap.size + 1) w2.heap.size 32 bs) (f5 : Fr none' (w3.alloc (.cells #[.slice none 0 0] 33)) w5) (r : IsRef w5 (w3.heap.size + 1 + 1) (w3.heap.size + 1) 32 bs) :
    BoAt w1 w5 bp w3.heap.size (w2.heap.size + 1) w2.heap.size (w3.heap.size + 1 + 1) (w3.heap.size + 1) [] [] bs bs := by
  obtain ⟨p, e, q1, q2, q3, q4⟩ := P
  have s1 := q4.size
  have s3 := f3.size
  have fa := (Fr.refl none' w3).alloc (.cells #[.slice none 0 0] 33)
  have r0 := row_alloc w3 #[.slice none 0 0] 33
  have qs : ∀ k, (⟨w3.heap.size, .slice none 0 0⟩ : Qb).s k → k = w3.heap.size := by
    rintro k (h | h)
    · exact h
    · simp [Value.ownBlock] at h
  refine ⟨⟨p, ⟨w3.heap.size, .slice none 0 0⟩, e, rfl, q1.keep0 ((f3.trans fa).trans f5), ⟨r0.keep f5 (fun h => h), ⟨by simp [flatG], Or.inl ⟨rfl, rfl⟩⟩, goodL_nil⟩, fun k hk hq => ?_, fun k hk => (q2 k hk).1, fun k hk => ?_⟩, (m.keep fa (fun h => h) (fun h => h)).keep f5 (fun h => h) (fun h => h), r, ⟨by omega, by omega⟩, ((q4.trans f3).trans fa).trans f5⟩
  · have := q1.lt k hk
    have := qs k hq
    omega
  · have := qs k hk
    omega

/-- What the calls of one region come to, one behind the other. -/
theorem rooms_pure {L : List Rg} (g : GoodL L) (f k n c : Int) : (getE L f = 131 ∧ rooE L f k n c = 131 ∧ getC (carS L f k n c) f = getC L f) ∨ (getE L f = 0 ∧ rooE L f k n c = 0 ∧ (getC (carS L f k n c) f).f = (getC L f).f ∧ (getC (carS L f k n c) f).n = (getC L f).n ∧ (getC L f).m < (getC (carS L f k n c) f).m) ∨ (getE L f = 0 ∧ rooE L f k n c ≠ 0 ∧ getC (carS L f k n c) f = getC L f) := by
  cases hf : fnd L f with
  | none =>
    left
    have e1 : rooE L f k n c = 131 := by unfold rooE; rw [hf]
    refine ⟨by unfold getE; rw [hf]; rfl, e1, ?_⟩
    unfold carS
    rw [if_neg (by rw [e1]; decide)]
  | some x =>
    right
    have e0 : getE L f = 0 := by unfold getE; rw [hf]; rfl
    have eC : getC L f = x := by unfold getC; rw [hf]; rfl
    by_cases hr : rooE L f k n c = 0
    · left
      obtain ⟨y, hy, hr', hv⟩ := rooE_zero hr
      rw [hf] at hy
      cases hy
      have hq := carve_ok (g.ok hf) hr'
      have e : getC (carS L f k n c) f = ⟨x.f, x.n, rooV L f k n c + c * n - f, x.d⟩ := by
        unfold carS getC
        rw [if_pos hr, fnd_setM, hf, Option.map_some, if_pos (fnd_mem hf).2]
        rfl
      have ef := (fnd_mem hf).2
      refine ⟨e0, hr, by rw [e, eC], by rw [e, eC], ?_⟩
      rw [e, eC, hv]
      dsimp only
      omega
    · right
      refine ⟨e0, hr, ?_⟩
      unfold carS
      rw [if_neg hr]

end Go.Proofs.Ytcmhndkbcfpbbaa
