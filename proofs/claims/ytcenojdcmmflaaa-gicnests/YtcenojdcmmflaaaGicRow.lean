/-
  The controller's own block told as what its lines hold ('IsGic'): laws on reading and writing them. No statement is proved here.
-/
import Derived.Test.YtcenojdcmmflaaaRows
import Derived.Test.YtcenojdcmmflaaaGicDefs
import Derived.WalkKit
import Derived.WalkSpells
import Derived.WalkLawsBesides
import Derived.BigQuiet
import Derived.Deep.QuietTactic
import Derived.Laws.StructEq
import Derived.Laws.ResultCell
import Derived.Laws.Rows
import Derived.Shelf.Abstract
namespace Go.Proofs.Ytcenojdcmmflaaa
open Go.RowKit

theorem Fr.undrew {S : Nat → Prop} {w w' : World} (h : Fr S w.drew w') : Fr S w w' := ⟨h.os, h.tape, h.output, h.size, h.block⟩

/-- Cells that show so many lines. -/
def IsLis (get : Nat → Option Value) (n : Nat) (T : Nat → Li) : Prop :=
  ∀ j, j < n → get (j * 4) = some (.int .i64 (T j).p) ∧ get (j * 4 + 1) = some (.int .i64 (T j).s) ∧ get (j * 4 + 2) = some (.bool (T j).en) ∧ get (j * 4 + 3) = some (.bool (T j).pe)

/-- Block b: thirty-two lines, and the mask. -/
def IsGic (w : World) (b : Nat) (T : Nat → Li) (m : Int) : Prop :=
  ∃ cs, Row w b cs 57 ∧ cs.size = 129 ∧ IsLis (fun i => cs[i]?) 32 T ∧ cs[128]? = some (.int .i64 m)

theorem IsLis.congr {get : Nat → Option Value} {n : Nat} {T T' : Nat → Li} (h : IsLis get n T) (e : ∀ j, j < n → T j = T' j) : IsLis get n T' := by
  intro j hj; rw [← e j hj]; exact h j hj

section
variable {w : World} {b : Nat} {T : Nat → Li} {m : Int}

theorem IsGic.congr {T' : Nat → Li} (h : IsGic w b T m) (e : ∀ j, j < 32 → T j = T' j) : IsGic w b T' m := by
  obtain ⟨cs, h1, h2, h3, h4⟩ := h; exact ⟨cs, h1, h2, h3.congr e, h4⟩

theorem IsGic.keep {S : Nat → Prop} {w' : World} (h : IsGic w b T m) (f : Fr S w w') (hs : ¬ S b) : IsGic w' b T m := by
  obtain ⟨cs, h, r⟩ := h; exact ⟨cs, h.keep f hs, r⟩

theorem IsGic.alloc (h : IsGic w b T m) (o : Obj) : IsGic (w.alloc o) b T m := h.keep ((Fr.refl none' w).alloc o) (fun h => h)

theorem IsGic.lt (h : IsGic w b T m) : b < w.heap.size := by obtain ⟨cs, h, _⟩ := h; exact h.lt

theorem IsGic.frozen (h : IsGic w b T m) (i : Nat) : w.frozen? ⟨b, i, none⟩ = false := by obtain ⟨cs, h, _⟩ := h; exact h.frozen i

theorem IsGic.cells (h : IsGic w b T m) (j : Nat) (hj : j < 32) :
    w.cell? ⟨b, j * 4, none⟩ = some (.int .i64 (T j).p) ∧ w.cell? ⟨b, j * 4 + 1, none⟩ = some (.int .i64 (T j).s) ∧ w.cell? ⟨b, j * 4 + 2, none⟩ = some (.bool (T j).en) ∧ w.cell? ⟨b, j * 4 + 3, none⟩ = some (.bool (T j).pe) := by
  obtain ⟨cs, hr, _, he, _⟩ := h
  obtain ⟨h0, h1, h2, h3⟩ := he j hj
  exact ⟨(hr.cell _).trans h0, (hr.cell _).trans h1, (hr.cell _).trans h2, (hr.cell _).trans h3⟩

theorem IsGic.mask (h : IsGic w b T m) : w.cell? ⟨b, 128, none⟩ = some (.int .i64 m) := by
  obtain ⟨cs, hr, _, _, h⟩ := h; exact (hr.cell _).trans h

theorem IsGic.setMask (h : IsGic w b T m) (x : Int) : IsGic (w.setCell ⟨b, 128, none⟩ (.int .i64 x)) b T x := by
  obtain ⟨cs, hr, hs, hl, h1⟩ := h
  refine ⟨_, hr.setCell 128 _, by simpa using hs, fun j hj => ?_, ?_⟩
  · obtain ⟨e0, e1, e2, e3⟩ := hl j hj
    simp (disch := omega) only [Array.getElem?_setIfInBounds, if_neg]
    exact ⟨e0, e1, e2, e3⟩
  · simp [hs]

/-- One cell of line k turned: which one, and what the line is then. -/
theorem lis_set {cs : Array Value} {n k i : Nat} {v : Value} {l : Li} (hl : IsLis (fun i => cs[i]?) n T) (hs : n * 4 ≤ cs.size) (hk : k < n)
    (hi : (i = 0 ∧ v = .int .i64 l.p ∧ l.s = (T k).s ∧ l.en = (T k).en ∧ l.pe = (T k).pe) ∨ (i = 1 ∧ v = .int .i64 l.s ∧ l.p = (T k).p ∧ l.en = (T k).en ∧ l.pe = (T k).pe) ∨
      (i = 2 ∧ v = .bool l.en ∧ l.p = (T k).p ∧ l.s = (T k).s ∧ l.pe = (T k).pe) ∨ (i = 3 ∧ v = .bool l.pe ∧ l.p = (T k).p ∧ l.s = (T k).s ∧ l.en = (T k).en)) :
    IsLis (fun j => (cs.setIfInBounds (k * 4 + i) v)[j]?) n (upd T k l) := by
  intro j hj
  obtain ⟨e0, e1, e2, e3⟩ := hl j hj
  by_cases e : j = k
  · subst e
    rw [upd_same]
    rcases hi with ⟨rfl, rfl, a, b, c⟩ | ⟨rfl, rfl, a, b, c⟩ | ⟨rfl, rfl, a, b, c⟩ | ⟨rfl, rfl, a, b, c⟩ <;>
      (rw [a, b, c]; simp (disch := omega) only [Array.getElem?_setIfInBounds, if_neg, if_pos, if_true, Nat.add_zero]; first | exact ⟨trivial, e1, e2, e3⟩ | exact ⟨e0, trivial, e2, e3⟩ | exact ⟨e0, e1, trivial, e3⟩ | exact ⟨e0, e1, e2, trivial⟩)
  · rw [upd_other _ _ e]
    have : i < 4 := by rcases hi with ⟨rfl, _⟩ | ⟨rfl, _⟩ | ⟨rfl, _⟩ | ⟨rfl, _⟩ <;> omega
    simp (disch := omega) only [Array.getElem?_setIfInBounds, if_neg]
    exact ⟨e0, e1, e2, e3⟩

theorem IsGic.setAt (h : IsGic w b T m) {k i : Nat} {v : Value} {l : Li} (hk : k < 32)
    (hi : (i = 0 ∧ v = .int .i64 l.p ∧ l.s = (T k).s ∧ l.en = (T k).en ∧ l.pe = (T k).pe) ∨ (i = 1 ∧ v = .int .i64 l.s ∧ l.p = (T k).p ∧ l.en = (T k).en ∧ l.pe = (T k).pe) ∨
      (i = 2 ∧ v = .bool l.en ∧ l.p = (T k).p ∧ l.s = (T k).s ∧ l.pe = (T k).pe) ∨ (i = 3 ∧ v = .bool l.pe ∧ l.p = (T k).p ∧ l.s = (T k).s ∧ l.en = (T k).en)) :
    IsGic (w.setCell ⟨b, k * 4 + i, none⟩ v) b (upd T k l) m := by
  obtain ⟨cs, hr, hs, hl, h1⟩ := h
  have : i < 4 := by rcases hi with ⟨rfl, _⟩ | ⟨rfl, _⟩ | ⟨rfl, _⟩ | ⟨rfl, _⟩ <;> omega
  refine ⟨_, hr.setCell _ _, by simpa using hs, lis_set hl (by omega) hk hi, ?_⟩
  simp (disch := omega) only [Array.getElem?_setIfInBounds, if_neg]; exact h1

theorem IsGic.setP (h : IsGic w b T m) {k : Nat} (hk : k < 32) (x : Int) : IsGic (w.setCell ⟨b, k * 4, none⟩ (.int .i64 x)) b (upd T k (fP x (T k))) m :=
  h.setAt (i := 0) hk (Or.inl ⟨rfl, rfl, rfl, rfl, rfl⟩)
theorem IsGic.setEn (h : IsGic w b T m) {k : Nat} (hk : k < 32) (x : Bool) : IsGic (w.setCell ⟨b, k * 4 + 2, none⟩ (.bool x)) b (upd T k (fEn x (T k))) m :=
  h.setAt (i := 2) hk (Or.inr (Or.inr (Or.inl ⟨rfl, rfl, rfl, rfl, rfl⟩)))
theorem IsGic.setPe (h : IsGic w b T m) {k : Nat} (hk : k < 32) (x : Bool) : IsGic (w.setCell ⟨b, k * 4 + 3, none⟩ (.bool x)) b (upd T k (fPe x (T k))) m :=
  h.setAt (i := 3) hk (Or.inr (Or.inr (Or.inr ⟨rfl, rfl, rfl, rfl, rfl⟩)))
theorem IsGic.setEnd (h : IsGic w b T m) {k : Nat} (hk : k < 32) : IsGic (w.setCell ⟨b, k * 4 + 1, none⟩ (.int .i64 256)) b (upd T k (fEnd (T k))) m :=
  h.setAt (i := 1) hk (Or.inr (Or.inl ⟨rfl, rfl, rfl, rfl, rfl⟩))
theorem upd_upd (T : Nat → Li) (k : Nat) (l l' : Li) : upd (upd T k l) k l' = upd T k l' := by funext j; unfold upd; split <;> rfl
theorem IsGic.setAck (h : IsGic w b T m) {k : Nat} (hk : k < 32) : IsGic ((w.setCell ⟨b, k * 4 + 1, none⟩ (.int .i64 (T k).p)).setCell ⟨b, k * 4 + 3, none⟩ (.bool false)) b (upd T k (fAck (T k))) m := by
  have h1 := h.setAt (i := 1) (v := .int .i64 (T k).p) (l := ⟨(T k).p, (T k).p, (T k).en, (T k).pe⟩) hk (Or.inr (Or.inl ⟨rfl, rfl, rfl, rfl, rfl⟩))
  have h2 := h1.setPe hk false
  rwa [upd_same, upd_upd] at h2

end

theorem size_li : (Try.prog.info? 54).map (·.size) = some 4 := by kernel_rfl
theorem size_lis : (Try.prog.info? 55).map (·.size) = some 128 := by kernel_rfl

/-- The lines of a controller, read whole. -/
theorem IsGic.arr {w : World} {b : Nat} {T : Nat → Li} {m : Int} (h : IsGic w b T m) :
    ∃ A : Array Value, A.size = 128 ∧ IsLis (fun i => A[i]?) 32 T ∧ ∀ j v, A[j]? = some v → w.cell? ⟨b, j, none⟩ = some v := by
  obtain ⟨cs, hr, hs, hl, _⟩ := h
  refine ⟨cs.extract 0 128, by simp [hs], fun j hj => ?_, fun j v hv => ?_⟩
  · obtain ⟨e0, e1, e2, e3⟩ := hl j hj
    have q : ∀ i, i < 128 → (cs.extract 0 128)[i]? = cs[i]? := fun i hi => by simp [hs, hi]
    simp (disch := omega) only [q]
    exact ⟨e0, e1, e2, e3⟩
  · rw [hr.cell]
    have hj : j < 128 := by
      rcases Nat.lt_or_ge j 128 with h' | h'
      · exact h'
      · rw [Array.getElem?_eq_none (by simp [hs]; omega)] at hv; exact absurd hv (by simp)
    rw [← hv]
    simp [hs, hj]

theorem wpList_load_part {P : Program} {ops : Array Oper} {rest : List Oper} {o : Oper} {a : Act} {w : World} {Q : Exit → Act → World → Prop} (hgd : o.guard = none) (ty : TypeId) (x : Operand) (ho : o.op = .load ty x)
    (g : Nat) (hx : a.eval x = .pointer (some ⟨g, 0, none⟩)) (cs : Array Value) (d : TypeDesc) (hc : ∀ j v, cs[j]? = some v → w.cell? ⟨g, j, none⟩ = some v)
    (hu : P.underlying ty = some d) (hd : (match d with | .struct _ | .array _ _ => true | _ => false) = true) (hi : (P.info? ty).map (·.size) = some cs.size)
    (h : wpList P ops Q rest (a.put o.dst (.agg cs)) w) : wpList P ops Q (o :: rest) a w := by
  refine wpList_plain hgd fun K hK => ?_
  have hl : (loadCells ⟨g, 0, none⟩ cs.toList.length).run P w = .ok cs.toList.toArray w :=
    run_loadCells_list (P := P) w ⟨g, 0, none⟩ cs.toList (fun j v hv => by
      rw [add_lit', Nat.zero_add]
      exact hc j v (by simpa using hv))
  have hv : (loadVar ty ⟨g, 0, none⟩).run P w = .ok (.agg cs) w := by
    cases hq : P.info? ty with
    | none => simp [hq] at hi
    | some i =>
      have hs : i.size = cs.size := by simpa [hq] using hi
      have hagg : (isAgg ty).run P w = .ok true w := by
        unfold isAgg
        rw [Sem.run_bind, run_underlying hu w]
        cases d <;> simp_all
      simp only [Array.length_toList, Array.toArray_toList] at hl
      simp [loadVar, Sem.run_bind, hagg, sizeOf, typeInfo, hq, hs, hl]
  unfold Oper.wp execOp
  simp only [ho, hx, Instr.loadAt, Instr.sureAddr, Sem.run_bind, Sem.run_pure, Result.andThen_ok, hv]
  exact hK _ _ h

/-- One line out of thirty-two. -/
theorem index_li {A : Array Value} {T : Nat → Li} (hA : A.size = 128) (h : IsLis (fun i => A[i]?) 32 T) (k : Nat) (hk : k < 32) (w : World) :
    (Instr.index 55 (.agg A) (.int .i64 (k : Int))).run Try.prog w = .ok (.agg #[.int .i64 (T k).p, .int .i64 (T k).s, .bool (T k).en, .bool (T k).pe]) w := by
  obtain ⟨e0, e1, e2, e3⟩ := h k hk
  have hx : A.extract (k * 4) (k * 4 + 4) = #[.int .i64 (T k).p, .int .i64 (T k).s, .bool (T k).en, .bool (T k).pe] := by
    apply Array.ext_getElem?
    intro i
    rw [Array.getElem?_extract]
    rcases Nat.lt_or_ge i 4 with hi | hi
    · rw [if_pos (by omega)]
      match i, hi with
      | 0, _ => simpa using e0
      | 1, _ => simpa using e1
      | 2, _ => simpa using e2
      | 3, _ => simpa using e3
    · rw [if_neg (by omega), Array.getElem?_eq_none (by simp; omega)]
  have hs := size_li
  cases hq : Try.prog.info? 54 with
  | none => simp [hq] at hs
  | some i =>
    have hs' : i.size = 4 := by simpa [hq] using hs
    simp [Instr.index, asIntOf, Sem.run_bind, run_underlying Try.underlying55, part, isAgg, run_underlying Try.underlying54, sizeOf, typeInfo, hq, hs', hx]
    intro h8
    omega

end Go.Proofs.Ytcenojdcmmflaaa
