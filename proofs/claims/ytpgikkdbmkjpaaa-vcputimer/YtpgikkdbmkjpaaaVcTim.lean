/-
  The virtual timer as plain data: a loaded one that ticks. No program, no statement.
-/
import Derived.Test.YtpgikkdbmkjpaaaVcDefs
namespace Go.Proofs.Ytpgikkdbmkjpaaa
open Go.RowKit

theorem wr32 (x : Int) : IntKind.u32.wrap x = x % 4294967296 := by
  simp only [IntKind.wrap, IntKind.bits, IntKind.signed]
  first | rfl | omega | (simp; done) | (simp; omega)
def VI : Vg := injS (zeroV 1) 27 10 false
/-- One processor, loaded, of such a count and such a timer. -/
def Tm (c t : Int) (S : Vp) (i : Nat) (V : Vg) : Prop := ∃ sy : Nat → Int, S = ⟨[⟨0, -1, sy, V⟩], 0, 1⟩ ∧ sy 5 = (c + i) % 4294967296 ∧ sy 3 = t
/-- Behind so many: has it told? -/
def tl (c t : Int) (i : Nat) : Bool := decide (t ≠ 0 ∧ 1 ≤ (t - c) % 4294967296 ∧ (t - c) % 4294967296 ≤ i)
def VV (b : Bool) : Vg := if b then VI else zeroV 1
def due (c t : Int) (i : Nat) : Bool := decide (t ≠ 0 ∧ (c + (i : Int) + 1) % 4294967296 = t)
section
variable {c t : Int} {S : Vp} {i : Nat} {V : Vg}
theorem tm_tick1 (h : Tm c t S i V) : Tm c t (tick1 S) (i + 1) V ∧ dueB S = due c t i := by
  obtain ⟨sy, rfl, h5, h3⟩ := h
  have e : tick1 ⟨[⟨0, -1, sy, V⟩], 0, 1⟩ = ⟨[⟨0, -1, fun j => if j = 5 then IntKind.u32.wrap (sy 5 + 1) else sy j, V⟩], 0, 1⟩ := rfl
  have e5 : IntKind.u32.wrap (sy 5 + 1) = (c + (i : Int) + 1) % 4294967296 := by
    rw [wr32, h5]
    omega
  refine ⟨⟨_, e, ?_, h3⟩, ?_⟩
  · show IntKind.u32.wrap (sy 5 + 1) = _
    rw [e5]
    congr 1
    omega
  · unfold dueB
    rw [e]
    show (!(sy 3 == 0) && IntKind.u32.wrap (sy 5 + 1) == sy 3) = due c t i
    rw [e5, h3]
    unfold due
    by_cases h0 : t = 0
    · simp [h0]
    · by_cases h1 : (c + (i : Int) + 1) % 4294967296 = t
      · simp [h0, h1]
      · simp [h0, h1]
theorem tm_ij (h : Tm c t S i V) : ijE S S.ld 27 10 = injE V 27 10 ∧ Tm c t (ijS S S.ld 27 10 false) i (injS V 27 10 false) := by
  obtain ⟨sy, rfl, h5, h3⟩ := h
  exact ⟨rfl, sy, rfl, h5, h3⟩
theorem tl_0 : tl c t 0 = false := by
  unfold tl
  refine decide_eq_false (fun h => ?_)
  have := h.2.1
  have := h.2.2
  omega
theorem due_tl (ht : 0 ≤ t ∧ t < 4294967296) (hi : i < 60) : (due c t i = true → tl c t i = false ∧ tl c t (i + 1) = true) ∧ (due c t i = false → tl c t (i + 1) = tl c t i) := by
  unfold due tl
  refine ⟨fun h => ?_, fun h => ?_⟩
  · have h := of_decide_eq_true h
    refine ⟨decide_eq_false (fun h2 => ?_), decide_eq_true ⟨h.1, ?_, ?_⟩⟩ <;> omega
  · have h := of_decide_eq_false h
    by_cases h0 : t = 0
    · simp [h0]
    · by_cases h1 : 1 ≤ (t - c) % 4294967296
      · by_cases h2 : (t - c) % 4294967296 ≤ (i : Int)
        · rw [decide_eq_true (show t ≠ 0 ∧ 1 ≤ (t - c) % 4294967296 ∧ (t - c) % 4294967296 ≤ (i : Int) from ⟨h0, h1, h2⟩), decide_eq_true ⟨h0, h1, by omega⟩]
        · rw [decide_eq_false (show ¬ (t ≠ 0 ∧ 1 ≤ (t - c) % 4294967296 ∧ (t - c) % 4294967296 ≤ (i : Int)) from fun h => h2 h.2.2), decide_eq_false (fun h3 => by
            have h4 : (t - c) % 4294967296 = (i : Int) + 1 := by omega
            exact h ⟨h0, by omega⟩)]
      · rw [decide_eq_false (show ¬ (t ≠ 0 ∧ 1 ≤ (t - c) % 4294967296 ∧ (t - c) % 4294967296 ≤ (i : Int)) from fun h => h1 h.2.1), decide_eq_false (fun h3 => h1 h3.2.1)]
/-- One tick. -/
theorem tm_tick (ht : 0 ≤ t ∧ t < 4294967296) (hi : i < 60) (h : Tm c t S i (VV (tl c t i))) :
    tckB S = due c t i ∧ Tm c t (tckS S) (i + 1) (VV (tl c t (i + 1))) := by
  obtain ⟨h1, hd⟩ := tm_tick1 h
  obtain ⟨d1, d2⟩ := due_tl (c := c) (t := t) ht hi
  have hl : S.ld = 0 := by obtain ⟨sy, rfl, _, _⟩ := h; rfl
  have hl1 : (tick1 S).ld = S.ld := rfl
  have hn : S.ld ≠ -1 := by omega
  unfold tckB tckS
  rw [if_neg hn, if_neg hn, hd]
  cases e : due c t i with
  | false =>
    rw [d2 e]
    exact ⟨rfl, h1⟩
  | true =>
    obtain ⟨e0, e1⟩ := d1 e
    rw [e0] at h1
    obtain ⟨j1, j2⟩ := tm_ij h1
    rw [hl1] at j1 j2
    rw [if_pos rfl, if_pos rfl, e1, j1]
    exact ⟨by decide +kernel, j2⟩
end
theorem tm_0 (c t : Int) (hc : 0 ≤ c ∧ c < 4294967296) : Tm c t (wriS (wriS (entS (addS ⟨[], -1, 1⟩ 0) 0) 0 5 c) 0 3 t) 0 (VV (tl c t 0)) := by
  rw [tl_0]
  refine ⟨fun j => if j = 3 then t else if j = 5 then c else zsy 0 j, rfl, ?_, rfl⟩
  show c = (c + ((0 : Nat) : Int)) % 4294967296
  omega
theorem tm_codes (c : Int) : addE ⟨[], -1, 1⟩ 0 = 0 ∧ entE (addS ⟨[], -1, 1⟩ 0) 0 = 0 ∧ wriE (entS (addS ⟨[], -1, 1⟩ 0) 0) 0 5 = 0 ∧ wriE (wriS (entS (addS ⟨[], -1, 1⟩ 0) 0) 0 5 c) 0 3 = 0 :=
  ⟨rfl, rfl, rfl, rfl⟩
theorem vv_ack (b : Bool) : ackA (VV b) = (if b then 27 else 1023) := by cases b <;> decide +kernel
theorem vv_endF (b : Bool) : endF (ackS (VV b)) (if b then 27 else 1023) = false := by cases b <;> decide +kernel
theorem vv_endE (b : Bool) : endE (ackS (VV b)) (if b then 27 else 1023) = (if b then 0 else 1) := by cases b <;> decide +kernel

end Go.Proofs.Ytpgikkdbmkjpaaa
