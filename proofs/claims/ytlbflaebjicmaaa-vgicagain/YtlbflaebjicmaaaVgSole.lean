/-
  One virtual interrupt alone: what injecting, acknowledging and ending it does. No statement is proved here.
-/
import Derived.Test.YtlbflaebjicmaaaVgDefs
namespace Go.Proofs.Ytlbflaebjicmaaa

/-- All are on, and at most interrupt k is pending, with o, or active, with a. -/
structure Sole (S : Vg) (k : Nat) (o a : Option (Int × Bool)) : Prop where
  pe : ∀ j, S.pe j = if j = k then o else none
  ac : ∀ j, S.ac j = if j = k then a else none
  off : ∀ j, S.off j = false
  mask : S.mask = 256

theorem sole_zero (lrs : Int) (k : Nat) : Sole (zeroV lrs) k none none := ⟨fun j => by simp [zeroV], fun j => by simp [zeroV], fun _ => rfl, rfl⟩

theorem Sole.pe_k {S : Vg} {k : Nat} {o a : Option (Int × Bool)} (h : Sole S k o a) : S.pe k = o := by rw [h.pe]; simp
theorem Sole.ac_k {S : Vg} {k : Nat} {o a : Option (Int × Bool)} (h : Sole S k o a) : S.ac k = a := by rw [h.ac]; simp

theorem Sole.inj {S : Vg} {k : Nat} {a : Option (Int × Bool)} (h : Sole S k none a) (hk : k < 64) {p : Int} (hp : isP p = true) (l : Bool) : injE S k p = 0 ∧ Sole (injS S k p l) k (some (p, l)) a := by
  have hi := isI_of hk
  have e : (S.pe ((k : Int)).toNat).isSome = false := by rw [show ((k : Int)).toNat = k by simp, h.pe_k]; rfl
  unfold injE injS
  rw [hi, hp, e]
  refine ⟨rfl, fun j => ?_, h.ac, h.off, h.mask⟩
  show set1 S.pe ((k : Int)).toNat (some (p, l)) j = _
  rw [show ((k : Int)).toNat = k by simp]
  by_cases ej : j = k
  · subst ej; rw [set1_same]; simp
  · rw [set1_other _ _ ej, h.pe]; simp [ej]

theorem Sole.next {S : Vg} {k : Nat} {p : Int} {l : Bool} (h : Sole S k (some (p, l)) none) (hk : k < 64) (hp : p ≤ 255) : nextO S = some k := by
  have hrun : run S = 256 := by
    rcases runN_is S 64 with e | ⟨j, q, m, hj, hq, _⟩
    · exact e
    · rw [h.ac] at hq; simp at hq
  have hc : cand S k = some p := cand_is.mpr ⟨⟨l, h.pe_k⟩, h.ac_k, h.off k⟩
  cases hn : nextO S with
  | none => have := next_none hn k p hk hc; rw [h.mask, hrun] at this; omega
  | some j =>
    obtain ⟨q, m, hq, _⟩ := next_some hn
    rw [h.pe] at hq
    by_cases ej : j = k
    · rw [ej]
    · simp [ej] at hq

theorem Sole.ack {S : Vg} {k : Nat} {p : Int} {l : Bool} (h : Sole S k (some (p, l)) none) (hk : k < 64) (hp : p ≤ 255) : ackA S = k ∧ Sole (ackS S) k none (some (p, l)) := by
  unfold ackA ackS
  rw [h.next hk hp]
  refine ⟨rfl, fun j => ?_, fun j => ?_, h.off, h.mask⟩
  · show set1 S.pe k none j = _
    by_cases ej : j = k
    · subst ej; rw [set1_same]; simp
    · rw [set1_other _ _ ej, h.pe]; simp [ej]
  · show set1 S.ac k (S.pe k) j = _
    by_cases ej : j = k
    · subst ej; rw [set1_same, h.pe_k]; simp
    · rw [set1_other _ _ ej, h.ac]; simp [ej]

theorem Sole.quiet {S : Vg} {k : Nat} {o a : Option (Int × Bool)} (h : Sole S k o a) (ho : o = none ∨ a.isSome = true) : ackA S = 1023 ∧ ackS S = S := by
  have hn : nextO S = none := by
    cases hn : nextO S with
    | none => rfl
    | some j =>
      obtain ⟨q, m, hq, ha, _⟩ := next_some hn
      rw [h.pe] at hq
      rw [h.ac] at ha
      by_cases ej : j = k
      · simp [ej] at hq ha
        rcases ho with ho | ho
        · rw [ho] at hq; cases hq
        · rw [ha] at ho; cases ho
      · simp [ej] at hq
  unfold ackA ackS
  rw [hn]
  exact ⟨rfl, rfl⟩

theorem Sole.end {S : Vg} {k : Nat} {o : Option (Int × Bool)} {p : Int} {l : Bool} (h : Sole S k o (some (p, l))) (hk : k < 64) : endF S k = l ∧ endE S k = 0 ∧ Sole (endS S k) k o none := by
  have hi := isI_of hk
  unfold endF endE endS
  rw [hi, show ((k : Int)).toNat = k by simp, h.ac_k]
  refine ⟨rfl, rfl, h.pe, fun j => ?_, h.off, h.mask⟩
  show set1 S.ac k none j = _
  by_cases ej : j = k
  · subst ej; rw [set1_same]; simp
  · rw [set1_other _ _ ej, h.ac]; simp [ej]

theorem Sole.end_none {S : Vg} {k : Nat} {o : Option (Int × Bool)} (h : Sole S k o none) (hk : k < 64) : endE S k = 70 := by
  have hi := isI_of hk
  unfold endE
  rw [hi, show ((k : Int)).toNat = k by simp, h.ac_k]
  rfl

end Go.Proofs.Ytlbflaebjicmaaa
