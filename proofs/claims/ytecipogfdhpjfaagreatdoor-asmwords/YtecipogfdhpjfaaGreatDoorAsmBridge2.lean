/-
  The program's lines against the plain assembler's, line by line. No program, no statement.
-/
import Derived.Test.YtecipogfdhpjfaaGreatDoorAsmBridge
namespace Go.Proofs.YtecipogfdhpjfaaGreatDoor
open Go.RowKit

/-- What operands do to a line's fields. -/
structure Flds (cs : List UInt8) (x y : Ln6) : Prop where
  o : y.o = x.o
  k : y.k = x.k
  lab : y.lab = x.lab
  a0 : 97 ∉ cs → y.a = x.a
  a1 : 0 ≤ x.a ∧ x.a ≤ 15 → 0 ≤ y.a ∧ y.a ≤ 15
  b0 : 98 ∉ cs → y.b = x.b
  b1 : 0 ≤ x.b ∧ x.b ≤ 15 → 0 ≤ y.b ∧ y.b ≤ 15
  c0 : 99 ∉ cs → y.c = x.c
  c1 : 0 ≤ x.c ∧ x.c ≤ 15 → 0 ≤ y.c ∧ y.c ≤ 15
  i0 : 105 ∉ cs → y.i = x.i ∧ y.nm = x.nm
  i1 : 0 ≤ x.i ∧ x.i ≤ 65535 → 0 ≤ y.i ∧ y.i ≤ 65535
theorem Flds.cons {cs : List UInt8} {c : UInt8} {x z y : Ln6} (h1 : Flds [c] x z) (h2 : Flds cs z y) : Flds (c :: cs) x y :=
  ⟨h2.o.trans h1.o, h2.k.trans h1.k, h2.lab.trans h1.lab,
   fun h => (h2.a0 (fun h' => h (by simp [h']))).trans (h1.a0 (fun h' => h (by simp at h'; simp [h']))), fun h => h2.a1 (h1.a1 h),
   fun h => (h2.b0 (fun h' => h (by simp [h']))).trans (h1.b0 (fun h' => h (by simp at h'; simp [h']))), fun h => h2.b1 (h1.b1 h),
   fun h => (h2.c0 (fun h' => h (by simp [h']))).trans (h1.c0 (fun h' => h (by simp at h'; simp [h']))), fun h => h2.c1 (h1.c1 h),
   fun h => ⟨(h2.i0 (fun h' => h (by simp [h']))).1.trans (h1.i0 (fun h' => h (by simp at h'; simp [h']))).1, (h2.i0 (fun h' => h (by simp [h']))).2.trans (h1.i0 (fun h' => h (by simp at h'; simp [h']))).2⟩, fun h => h2.i1 (h1.i1 h)⟩
theorem oper_flds (x : Ln6) (c : UInt8) (t : Tok) : Flds [c] x (operT x c t).2 := by
  unfold operT
  cases t with
  | reg n =>
    by_cases h : c = 97 ∨ c = 98 ∨ c = 99
    · rw [if_pos h]
      by_cases hn : 15 < n
      · simp only [hn, if_true]
        exact ⟨rfl, rfl, rfl, fun _ => rfl, id, fun _ => rfl, id, fun _ => rfl, id, fun _ => ⟨rfl, rfl⟩, id⟩
      · simp only [hn, if_false]
        rcases h with rfl | rfl | rfl
        · exact ⟨rfl, rfl, rfl, fun h => absurd (by simp) h, fun _ => by simp; omega, fun _ => rfl, id, fun _ => rfl, id, fun _ => ⟨rfl, rfl⟩, id⟩
        · exact ⟨rfl, rfl, rfl, fun _ => rfl, id, fun h => absurd (by simp) h, fun _ => by simp; omega, fun _ => rfl, id, fun _ => ⟨rfl, rfl⟩, id⟩
        · exact ⟨rfl, rfl, rfl, fun _ => rfl, id, fun _ => rfl, id, fun h => absurd (by simp) h, fun _ => by simp; omega, fun _ => ⟨rfl, rfl⟩, id⟩
    · rw [if_neg h]
      split <;> exact ⟨rfl, rfl, rfl, fun _ => rfl, id, fun _ => rfl, id, fun _ => rfl, id, fun _ => ⟨rfl, rfl⟩, id⟩
  | num n =>
    split
    · exact ⟨rfl, rfl, rfl, fun _ => rfl, id, fun _ => rfl, id, fun _ => rfl, id, fun _ => ⟨rfl, rfl⟩, id⟩
    · split
      · rename_i h5
        subst h5
        by_cases hn : 65535 < n
        · simp only [hn, if_true]
          exact ⟨rfl, rfl, rfl, fun _ => rfl, id, fun _ => rfl, id, fun _ => rfl, id, fun _ => ⟨rfl, rfl⟩, id⟩
        · simp only [hn, if_false]
          exact ⟨rfl, rfl, rfl, fun _ => rfl, id, fun _ => rfl, id, fun _ => rfl, id, fun h => absurd (by simp) h, fun _ => by simp; omega⟩
      · exact ⟨rfl, rfl, rfl, fun _ => rfl, id, fun _ => rfl, id, fun _ => rfl, id, fun _ => ⟨rfl, rfl⟩, id⟩
  | nm s =>
    split
    · exact ⟨rfl, rfl, rfl, fun _ => rfl, id, fun _ => rfl, id, fun _ => rfl, id, fun _ => ⟨rfl, rfl⟩, id⟩
    · split
      · rename_i h5
        subst h5
        exact ⟨rfl, rfl, rfl, fun _ => rfl, id, fun _ => rfl, id, fun _ => rfl, id, fun h => absurd (by simp) h, id⟩
      · exact ⟨rfl, rfl, rfl, fun _ => rfl, id, fun _ => rfl, id, fun _ => rfl, id, fun _ => ⟨rfl, rfl⟩, id⟩
  | sg d =>
    split
    · exact ⟨rfl, rfl, rfl, fun _ => rfl, id, fun _ => rfl, id, fun _ => rfl, id, fun _ => ⟨rfl, rfl⟩, id⟩
    · split <;> exact ⟨rfl, rfl, rfl, fun _ => rfl, id, fun _ => rfl, id, fun _ => rfl, id, fun _ => ⟨rfl, rfl⟩, id⟩
theorem opers_flds : ∀ (cs : List UInt8) (ts : List Tok) (x : Ln6) (e : Nat), (opersT cs ts x e).1 ≠ 61 → Flds cs x (opersT cs ts x e).2
  | [], [], x, e, _ => ⟨rfl, rfl, rfl, fun _ => rfl, id, fun _ => rfl, id, fun _ => rfl, id, fun _ => ⟨rfl, rfl⟩, id⟩
  | [], _ :: _, x, e, h => by simp [opersT] at h
  | _ :: _, [], x, e, h => by simp [opersT] at h
  | c :: cs, t :: ts, x, e, h => by
    unfold opersT at h ⊢
    by_cases h1 : (operT x c t).1 = 61
    · rw [if_pos h1] at h; simp at h
    · rw [if_neg h1] at h ⊢
      exact (oper_flds x c t).cons (opers_flds cs ts _ _ h)

theorem shape_has (n : Nat) (h : n < 26) : (97 ∈ shapeB (n : Int) ↔ hA (kf (n : Int)) = true) ∧ (98 ∈ shapeB (n : Int) ↔ hB (kf (n : Int)) = true) ∧ (99 ∈ shapeB (n : Int) ↔ hC (kf (n : Int)) = true) ∧ (105 ∈ shapeB (n : Int) ↔ hI (kf (n : Int)) = true) ∧ (1 ≤ n → kf (n : Int) ≠ 0) := by
  have hh : ∀ n : Fin 26, (97 ∈ shapeB (n.val : Int) ↔ hA (kf (n.val : Int)) = true) ∧ (98 ∈ shapeB (n.val : Int) ↔ hB (kf (n.val : Int)) = true) ∧ (99 ∈ shapeB (n.val : Int) ↔ hC (kf (n.val : Int)) = true) ∧ (105 ∈ shapeB (n.val : Int) ↔ hI (kf (n.val : Int)) = true) ∧ (1 ≤ n.val → kf (n.val : Int) ≠ 0) := by decide +kernel
  exact hh ⟨n, h⟩

theorem fld_ok {h : Bool} {cs : List UInt8} {c : UInt8} {v M : Int} (hi : c ∈ cs ↔ h = true) (h0 : c ∉ cs → v = 0) (h1 : 0 ≤ v ∧ v ≤ M) : fld h v M = true := by
  cases h
  · have : c ∉ cs := fun hc => by have := hi.1 hc; cases this
    simp [fld, h0 this]
  · simp [fld, h1]

/-- The parts of an item are in their bounds. -/
theorem right_opers {op : Int} (h1 : 1 ≤ op) (h25 : op ≤ 25) (lab : List UInt8) (ts : List Tok) (hc : (opersT (shapeB op) ts ⟨lab, 1, op, 0, 0, 0, 0, [], 0⟩ 0).1 ≠ 61) (v : Int)
    (hv : v = (opersT (shapeB op) ts ⟨lab, 1, op, 0, 0, 0, 0, [], 0⟩ 0).2.i ∨ ((opersT (shapeB op) ts ⟨lab, 1, op, 0, 0, 0, 0, [], 0⟩ 0).2.nm ≠ [] ∧ 0 ≤ v ∧ v ≤ 65535)) :
    encE op (opersT (shapeB op) ts ⟨lab, 1, op, 0, 0, 0, 0, [], 0⟩ 0).2.a (opersT (shapeB op) ts ⟨lab, 1, op, 0, 0, 0, 0, [], 0⟩ 0).2.b (opersT (shapeB op) ts ⟨lab, 1, op, 0, 0, 0, 0, [], 0⟩ 0).2.c v = 0 := by
  have f := opers_flds _ _ _ _ hc
  obtain ⟨s1, s2, s3, s4, s5⟩ := shape_has op.toNat (by omega)
  rw [show ((op.toNat : Nat) : Int) = op by omega] at s1 s2 s3 s4 s5
  have hr : rightI op (opersT (shapeB op) ts ⟨lab, 1, op, 0, 0, 0, 0, [], 0⟩ 0).2.a (opersT (shapeB op) ts ⟨lab, 1, op, 0, 0, 0, 0, [], 0⟩ 0).2.b (opersT (shapeB op) ts ⟨lab, 1, op, 0, 0, 0, 0, [], 0⟩ 0).2.c v = true := by
    unfold rightI
    simp only [Bool.and_eq_true]
    refine ⟨⟨⟨⟨by simpa using s5 (by omega), fld_ok s1 f.a0 (f.a1 (by simp))⟩, fld_ok s2 f.b0 (f.b1 (by simp))⟩, fld_ok s3 f.c0 (f.c1 (by simp))⟩, ?_⟩
    rcases hv with hv | hv
    · rw [hv]; exact fld_ok s4 (fun h => (f.i0 h).1) (f.i1 (by simp))
    · refine fld_ok s4 (fun h => absurd (f.i0 h).2 ?_) ⟨hv.2.1, hv.2.2⟩
      exact hv.1
  unfold encE
  rw [hr]
  rfl

end Go.Proofs.YtecipogfdhpjfaaGreatDoor
