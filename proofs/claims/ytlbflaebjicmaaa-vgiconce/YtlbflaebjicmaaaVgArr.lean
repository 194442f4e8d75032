/-
  Arrays of sixty-four numbers, or flags, of the call's own. No statement is proved here.
-/
import Derived.Test.YtlbflaebjicmaaaVgAwake
namespace Go.Proofs.Ytlbflaebjicmaaa
open Go.RowKit

def updI (f : Nat → Int) (k : Nat) (x : Int) : Nat → Int := fun j => if j = k then x else f j
theorem updI_same (f : Nat → Int) (k : Nat) (x : Int) : updI f k x k = x := by simp [updI]
theorem updI_other (f : Nat → Int) {k j : Nat} (x : Int) (h : j ≠ k) : updI f k x j = f j := by simp [updI, h]

/-- Block g: sixty-four numbers. -/
def Arr (w : World) (g : Nat) (f : Nat → Int) : Prop := ∃ cs, Row w g cs 51 ∧ cs.size = 64 ∧ ∀ j, j < 64 → cs[j]? = some (.int .i64 (f j))
/-- Block g: sixty-four flags. -/
def ArrB (w : World) (g : Nat) (f : Nat → Bool) : Prop := ∃ cs, Row w g cs 56 ∧ cs.size = 64 ∧ ∀ j, j < 64 → cs[j]? = some (.bool (f j))

section
variable {w w' : World} {g : Nat} {f : Nat → Int} {fb : Nat → Bool}
theorem Arr.keep {S : Nat → Prop} (h : Arr w g f) (k : Fr S w w') (hs : ¬ S g) : Arr w' g f := by obtain ⟨cs, hr, r⟩ := h; exact ⟨cs, hr.keep k hs, r⟩
theorem Arr.cell (h : Arr w g f) {j : Nat} (hj : j < 64) : w.cell? ⟨g, j, none⟩ = some (.int .i64 (f j)) := by obtain ⟨cs, hr, _, hc⟩ := h; exact (hr.cell _).trans (hc j hj)
theorem Arr.frozen (h : Arr w g f) (j : Nat) : w.frozen? ⟨g, j, none⟩ = false := by obtain ⟨cs, hr, _⟩ := h; exact hr.frozen j
theorem Arr.lt (h : Arr w g f) : g < w.heap.size := by obtain ⟨cs, hr, _⟩ := h; exact hr.lt
theorem Arr.set (h : Arr w g f) {k : Nat} (hk : k < 64) (x : Int) : Arr (w.setCell ⟨g, k, none⟩ (.int .i64 x)) g (updI f k x) := by
  obtain ⟨cs, hr, hs, hc⟩ := h
  refine ⟨_, hr.setCell k _, by simpa using hs, fun j hj => ?_⟩
  by_cases e : j = k
  · subst e; rw [updI_same]; simp [hs, hj]
  · rw [updI_other _ _ e, Array.getElem?_setIfInBounds, if_neg (fun h => e h.symm)]; exact hc j hj
theorem Arr.other (h : Arr w g f) {p : Addr} (hp : p.block ≠ g) (v : Value) : Arr (w.setCell p v) g f := by
  obtain ⟨cs, hr, r⟩ := h; exact ⟨cs, hr.setCell_other hp v, r⟩
theorem Arr.congr {f' : Nat → Int} (h : Arr w g f) (e : ∀ j, j < 64 → f j = f' j) : Arr w g f' := by
  obtain ⟨cs, hr, hs, hc⟩ := h; exact ⟨cs, hr, hs, fun j hj => by rw [← e j hj]; exact hc j hj⟩
theorem ArrB.keep {S : Nat → Prop} (h : ArrB w g fb) (k : Fr S w w') (hs : ¬ S g) : ArrB w' g fb := by obtain ⟨cs, hr, r⟩ := h; exact ⟨cs, hr.keep k hs, r⟩
theorem ArrB.cell (h : ArrB w g fb) {j : Nat} (hj : j < 64) : w.cell? ⟨g, j, none⟩ = some (.bool (fb j)) := by obtain ⟨cs, hr, _, hc⟩ := h; exact (hr.cell _).trans (hc j hj)
theorem ArrB.frozen (h : ArrB w g fb) (j : Nat) : w.frozen? ⟨g, j, none⟩ = false := by obtain ⟨cs, hr, _⟩ := h; exact hr.frozen j
theorem ArrB.set (h : ArrB w g fb) {k : Nat} (hk : k < 64) (x : Bool) : ArrB (w.setCell ⟨g, k, none⟩ (.bool x)) g (setB fb k x) := by
  obtain ⟨cs, hr, hs, hc⟩ := h
  refine ⟨_, hr.setCell k _, by simpa using hs, fun j hj => ?_⟩
  by_cases e : j = k
  · subst e; rw [setB_same]; simp [hs, hj]
  · rw [setB_other _ _ e, Array.getElem?_setIfInBounds, if_neg (fun h => e h.symm)]; exact hc j hj
end

set_option maxRecDepth 100000 in
theorem zero_ints : ∃ Z : Array Value, (∀ w, Sem.run Try.prog (zeroValue 51) w = .ok (.agg Z) w) ∧ ∀ w : World, Arr (w.alloc (.cells Z 51)) w.heap.size (fun _ => 0) := by
  refine ⟨Array.replicate 64 (.int .i64 0), fun w => by kernel_rfl, fun w => ⟨_, row_alloc _ _ _, by simp, fun j hj => by simp [hj]⟩⟩

set_option maxRecDepth 100000 in
theorem zero_bools : ∃ Z : Array Value, (∀ w, Sem.run Try.prog (zeroValue 56) w = .ok (.agg Z) w) ∧ ∀ w : World, ArrB (w.alloc (.cells Z 56)) w.heap.size (fun _ => false) := by
  refine ⟨Array.replicate 64 (.bool false), fun w => by kernel_rfl, fun w => ⟨_, row_alloc _ _ _, by simp, fun j hj => by simp [hj]⟩⟩

end Go.Proofs.Ytlbflaebjicmaaa
