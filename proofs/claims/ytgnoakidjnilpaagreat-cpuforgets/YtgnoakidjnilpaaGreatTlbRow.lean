/-
  The buffer's own block told as what its entries hold ('IsBuf'), and rows of lines ('LineRow'): laws on reading and writing them. No statement is proved here.
-/
import Derived.Test.YtgnoakidjnilpaaGreatTlbVal
namespace Go.Proofs.YtgnoakidjnilpaaGreat
open Go.RowKit

theorem Fr.undrew {S : Nat → Prop} {w w' : World} (h : Fr S w.drew w') : Fr S w w' := ⟨h.os, h.tape, h.output, h.size, h.block⟩

/-- The five cells of a line's own box. -/
theorem row5 {w : World} {b : Nat} {c0 c1 c2 c3 c4 : Value} {t : TypeId} (h : Row w b #[c0, c1, c2, c3, c4] t) :
    w.cell? ⟨b, 0, none⟩ = some c0 ∧ w.cell? ⟨b, 1, none⟩ = some c1 ∧ w.cell? ⟨b, 2, none⟩ = some c2 ∧ w.cell? ⟨b, 3, none⟩ = some c3 ∧ w.cell? ⟨b, 4, none⟩ = some c4 :=
  ⟨h.cell 0, h.cell 1, h.cell 2, h.cell 3, h.cell 4⟩

/-- Cells that show so many lines. -/
def IsLines (get : Nat → Option Value) (n : Nat) (T : Nat → Ln) : Prop :=
  ∀ j, j < n → get (j * 5) = some (.int .i64 (T j).v) ∧ get (j * 5 + 1) = some (.int .i64 (T j).a) ∧ get (j * 5 + 2) = some (.int .i64 (T j).p) ∧ get (j * 5 + 3) = some (.int .i64 (T j).f) ∧ get (j * 5 + 4) = some (.int .i64 (T j).r)

/-- Block b, of type t: eight lines, and the two counts. -/
def IsBuf (t : TypeId) (w : World) (b : Nat) (T : Nat → Ln) (fo mi : Int) : Prop :=
  ∃ cs, Row w b cs t ∧ cs.size = 42 ∧ IsLines (fun i => cs[i]?) 8 T ∧ cs[40]? = some (.int .i64 fo) ∧ cs[41]? = some (.int .i64 mi)

theorem IsLines.congr {get : Nat → Option Value} {n : Nat} {T T' : Nat → Ln} (h : IsLines get n T) (e : ∀ j, j < n → T j = T' j) : IsLines get n T' := by
  intro j hj; rw [← e j hj]; exact h j hj

section
variable {t : TypeId} {w : World} {b : Nat} {T : Nat → Ln} {fo mi : Int}

theorem IsBuf.congr {T' : Nat → Ln} (h : IsBuf t w b T fo mi) (e : ∀ j, j < 8 → T j = T' j) : IsBuf t w b T' fo mi := by
  obtain ⟨cs, h1, h2, h3, h4⟩ := h; exact ⟨cs, h1, h2, h3.congr e, h4⟩

theorem IsBuf.keep {S : Nat → Prop} {w' : World} (h : IsBuf t w b T fo mi) (f : Fr S w w') (hs : ¬ S b) : IsBuf t w' b T fo mi := by
  obtain ⟨cs, h, r⟩ := h; exact ⟨cs, h.keep f hs, r⟩

theorem IsBuf.alloc (h : IsBuf t w b T fo mi) (o : Obj) : IsBuf t (w.alloc o) b T fo mi := h.keep ((Fr.refl none' w).alloc o) (fun h => h)

theorem IsBuf.lt (h : IsBuf t w b T fo mi) : b < w.heap.size := by obtain ⟨cs, h, _⟩ := h; exact h.lt

theorem IsBuf.frozen (h : IsBuf t w b T fo mi) (i : Nat) : w.frozen? ⟨b, i, none⟩ = false := by obtain ⟨cs, h, _⟩ := h; exact h.frozen i

theorem IsBuf.cells (h : IsBuf t w b T fo mi) (j : Nat) (hj : j < 8) :
    w.cell? ⟨b, j * 5, none⟩ = some (.int .i64 (T j).v) ∧ w.cell? ⟨b, j * 5 + 1, none⟩ = some (.int .i64 (T j).a) ∧ w.cell? ⟨b, j * 5 + 2, none⟩ = some (.int .i64 (T j).p) ∧ w.cell? ⟨b, j * 5 + 3, none⟩ = some (.int .i64 (T j).f) ∧ w.cell? ⟨b, j * 5 + 4, none⟩ = some (.int .i64 (T j).r) := by
  obtain ⟨cs, hr, _, he, _⟩ := h
  obtain ⟨h0, h1, h2, h3, h4⟩ := he j hj
  exact ⟨(hr.cell _).trans h0, (hr.cell _).trans h1, (hr.cell _).trans h2, (hr.cell _).trans h3, (hr.cell _).trans h4⟩

theorem IsBuf.cfo (h : IsBuf t w b T fo mi) : w.cell? ⟨b, 40, none⟩ = some (.int .i64 fo) := by
  obtain ⟨cs, hr, _, _, h, _⟩ := h; exact (hr.cell _).trans h

theorem IsBuf.cmi (h : IsBuf t w b T fo mi) : w.cell? ⟨b, 41, none⟩ = some (.int .i64 mi) := by
  obtain ⟨cs, hr, _, _, _, h⟩ := h; exact (hr.cell _).trans h

theorem IsBuf.setFo (h : IsBuf t w b T fo mi) (x : Int) : IsBuf t (w.setCell ⟨b, 40, none⟩ (.int .i64 x)) b T x mi := by
  obtain ⟨cs, hr, hs, hl, h1, h2⟩ := h
  refine ⟨_, hr.setCell 40 _, by simpa using hs, fun j hj => ?_, ?_, ?_⟩
  · obtain ⟨e0, e1, e2, e3, e4⟩ := hl j hj
    simp (disch := omega) only [Array.getElem?_setIfInBounds, if_neg]
    exact ⟨e0, e1, e2, e3, e4⟩
  · simp [hs]
  · simpa [Array.getElem?_setIfInBounds] using h2

theorem IsBuf.setMi (h : IsBuf t w b T fo mi) (x : Int) : IsBuf t (w.setCell ⟨b, 41, none⟩ (.int .i64 x)) b T fo x := by
  obtain ⟨cs, hr, hs, hl, h1, h2⟩ := h
  refine ⟨_, hr.setCell 41 _, by simpa using hs, fun j hj => ?_, ?_, ?_⟩
  · obtain ⟨e0, e1, e2, e3, e4⟩ := hl j hj
    simp (disch := omega) only [Array.getElem?_setIfInBounds, if_neg]
    exact ⟨e0, e1, e2, e3, e4⟩
  · simpa [Array.getElem?_setIfInBounds] using h1
  · simp [hs]

/-- Five cells from an offset on. -/
def set5 (w : World) (b o : Nat) (l : Ln) : World :=
  ((((w.setCell ⟨b, o, none⟩ (.int .i64 l.v)).setCell ⟨b, o + 1, none⟩ (.int .i64 l.a)).setCell ⟨b, o + 2, none⟩ (.int .i64 l.p)).setCell ⟨b, o + 3, none⟩ (.int .i64 l.f)).setCell ⟨b, o + 4, none⟩ (.int .i64 l.r)

theorem set5_fr {S : Nat → Prop} {w1 : World} {b o : Nat} {l : Ln} (h : Fr S w w1) (hb : w.heap.size ≤ b ∨ S b) : Fr S w (set5 w1 b o l) :=
  ((((h.setCell (p := ⟨b, o, none⟩) hb _).setCell (p := ⟨b, o + 1, none⟩) hb _).setCell (p := ⟨b, o + 2, none⟩) hb _).setCell (p := ⟨b, o + 3, none⟩) hb _).setCell (p := ⟨b, o + 4, none⟩) hb _

theorem lines_set5 {cs : Array Value} {n k : Nat} {l : Ln} (hl : IsLines (fun i => cs[i]?) n T) (hk : k < n) (hs : n * 5 ≤ cs.size) :
    IsLines (fun i => (((((cs.setIfInBounds (k * 5) (.int .i64 l.v)).setIfInBounds (k * 5 + 1) (.int .i64 l.a)).setIfInBounds (k * 5 + 2) (.int .i64 l.p)).setIfInBounds (k * 5 + 3) (.int .i64 l.f)).setIfInBounds (k * 5 + 4) (.int .i64 l.r))[i]?) n (upd T k l) := by
  intro j hj
  by_cases hjk : j = k
  · subst hjk
    rw [upd_same]
    simp (disch := omega) [Array.getElem?_setIfInBounds]
    omega
  · rw [upd_other _ _ hjk]
    obtain ⟨e0, e1, e2, e3, e4⟩ := hl j hj
    simp (disch := omega) only [Array.getElem?_setIfInBounds, if_neg]
    exact ⟨e0, e1, e2, e3, e4⟩

theorem IsBuf.setLine (h : IsBuf t w b T fo mi) {k : Nat} (hk : k < 8) (l : Ln) : IsBuf t (set5 w b (k * 5) l) b (upd T k l) fo mi := by
  obtain ⟨cs, hr, hs, hl, h1, h2⟩ := h
  refine ⟨_, ((((hr.setCell _ _).setCell _ _).setCell _ _).setCell _ _).setCell _ _, by simpa using hs, lines_set5 hl hk (by omega), ?_, ?_⟩
  · simp (disch := omega) only [Array.getElem?_setIfInBounds, if_neg]; exact h1
  · simp (disch := omega) only [Array.getElem?_setIfInBounds, if_neg]; exact h2

end

/-- Block g has room for n lines; the first k are T's. -/
def LineRow (w : World) (g n k : Nat) (T : Nat → Ln) : Prop := ∃ cs, Row w g cs 101 ∧ cs.size = n * 5 ∧ IsLines (fun i => cs[i]?) k T

section
variable {w : World} {g n k : Nat} {T : Nat → Ln}

theorem LineRow.keep {S : Nat → Prop} {w' : World} (h : LineRow w g n k T) (f : Fr S w w') (hs : ¬ S g) : LineRow w' g n k T := by
  obtain ⟨cs, h, r⟩ := h; exact ⟨cs, h.keep f hs, r⟩

theorem LineRow.alloc (h : LineRow w g n k T) (o : Obj) : LineRow (w.alloc o) g n k T := h.keep ((Fr.refl none' w).alloc o) (fun h => h)

theorem LineRow.lt (h : LineRow w g n k T) : g < w.heap.size := by obtain ⟨cs, h, _⟩ := h; exact h.lt

theorem LineRow.frozen (h : LineRow w g n k T) (i : Nat) : w.frozen? ⟨g, i, none⟩ = false := by obtain ⟨cs, h, _⟩ := h; exact h.frozen i

theorem LineRow.cells (h : LineRow w g n k T) (j : Nat) (hj : j < k) :
    w.cell? ⟨g, j * 5, none⟩ = some (.int .i64 (T j).v) ∧ w.cell? ⟨g, j * 5 + 1, none⟩ = some (.int .i64 (T j).a) ∧ w.cell? ⟨g, j * 5 + 2, none⟩ = some (.int .i64 (T j).p) ∧ w.cell? ⟨g, j * 5 + 3, none⟩ = some (.int .i64 (T j).f) ∧ w.cell? ⟨g, j * 5 + 4, none⟩ = some (.int .i64 (T j).r) := by
  obtain ⟨cs, hr, _, he⟩ := h
  obtain ⟨h0, h1, h2, h3, h4⟩ := he j hj
  exact ⟨(hr.cell _).trans h0, (hr.cell _).trans h1, (hr.cell _).trans h2, (hr.cell _).trans h3, (hr.cell _).trans h4⟩

/-- The frame of one line of the row turned. -/
theorem LineRow.setF (h : LineRow w g n k T) {j : Nat} (hj : j < k) (x : Int) : LineRow (w.setCell ⟨g, j * 5 + 3, none⟩ (.int .i64 x)) g n k (upd T j ⟨(T j).v, (T j).a, (T j).p, x, (T j).r⟩) := by
  obtain ⟨cs, hr, hs, hl⟩ := h
  refine ⟨_, hr.setCell _ _, by simpa using hs, fun i hi => ?_⟩
  obtain ⟨e0, e1, e2, e3, e4⟩ := hl i hi
  by_cases hij : i = j
  · subst hij
    rw [upd_same]
    have hc : i * 5 + 3 < cs.size := by
      have := show cs[i * 5 + 3]? = _ from e3
      rcases Nat.lt_or_ge (i * 5 + 3) cs.size with h' | h'
      · exact h'
      · rw [Array.getElem?_eq_none h'] at this; exact absurd this (by simp)
    simp (disch := omega) only [Array.getElem?_setIfInBounds, if_neg, if_pos, if_true]
    exact ⟨e0, e1, e2, trivial, e4⟩
  · rw [upd_other _ _ hij]
    simp (disch := omega) only [Array.getElem?_setIfInBounds, if_neg]
    exact ⟨e0, e1, e2, e3, e4⟩

end

theorem size_arr : (Tryz.prog.info? 102).map (·.size) = some 40 := by kernel_rfl

/-- The eight lines of a buffer, read whole. -/
theorem IsBuf.arr {t : TypeId} {w : World} {b : Nat} {T : Nat → Ln} {fo mi : Int} (h : IsBuf t w b T fo mi) :
    ∃ A : Array Value, A.size = 40 ∧ IsLines (fun i => A[i]?) 8 T ∧ ∀ j v, A[j]? = some v → w.cell? ⟨b, j, none⟩ = some v := by
  obtain ⟨cs, hr, hs, hl, _⟩ := h
  refine ⟨cs.extract 0 40, by simp [hs], fun j hj => ?_, fun j v hv => ?_⟩
  · obtain ⟨e0, e1, e2, e3, e4⟩ := hl j hj
    have q : ∀ i, i < 40 → (cs.extract 0 40)[i]? = cs[i]? := fun i hi => by simp [hs, hi]
    simp (disch := omega) only [q]
    exact ⟨e0, e1, e2, e3, e4⟩
  · rw [hr.cell]
    have hj : j < 40 := by
      rcases Nat.lt_or_ge j 40 with h' | h'
      · exact h'
      · rw [Array.getElem?_eq_none (by simp [hs]; omega)] at hv; exact absurd hv (by simp)
    rw [← hv]
    simp [hs, hj]

theorem wpList_load_part {P : Program} {ops : Array Oper} {rest : List Oper} {o : Oper} {a : Act} {w : World} {Q : Exit → Act → World → Prop} (hgd : o.guard = none) (ty : TypeId) (x : Operand) (ho : o.op = .load ty x)
    (g : Nat) (hx : a.eval x = .pointer (some ⟨g, 0, none⟩)) (cs : Array Value) (d : TypeDesc) (hc : ∀ j v, cs[j]? = some v → w.cell? ⟨g, j, none⟩ = some v)
    (hu : P.underlying ty = some d) (hd : (match d with | .struct _ | .array _ _ => true | _ => false) = true) (hi : (P.info? ty).map (·.size) = some cs.size)
    (h : wpList P ops Q rest (a.put o.dst (.agg cs)) w) : wpList P ops Q (o :: rest) a w := by
  refine wpList_plain hgd fun K hK => ?_
  have hl : (loadCells ⟨g, 0, none⟩ cs.toList.length).run P w = .ok cs.toList.toArray w :=
    run_loadCells_list (P := P) w ⟨g, 0, none⟩ cs.toList (fun j v hv => by
      rw [add_lit', Nat.zero_add]
      exact hc j v (by simpa using hv))
  have hv : (loadVar ty ⟨g, 0, none⟩).run P w = .ok (.agg cs) w := by
    cases hq : P.info? ty with
    | none => simp [hq] at hi
    | some i =>
      have hs : i.size = cs.size := by simpa [hq] using hi
      have hagg : (isAgg ty).run P w = .ok true w := by
        unfold isAgg
        rw [Sem.run_bind, run_underlying hu w]
        cases d <;> simp_all
      simp only [Array.length_toList, Array.toArray_toList] at hl
      simp [loadVar, Sem.run_bind, hagg, sizeOf, typeInfo, hq, hs, hl]
  unfold Oper.wp execOp
  simp only [ho, hx, Instr.loadAt, Instr.sureAddr, Sem.run_bind, Sem.run_pure, Result.andThen_ok, hv]
  exact hK _ _ h

/-- One line out of eight. -/
theorem index_line {A : Array Value} {T : Nat → Ln} (hA : A.size = 40) (h : IsLines (fun i => A[i]?) 8 T) (k : Nat) (hk : k < 8) (w : World) :
    (Instr.index 102 (.agg A) (.int .i64 (k : Int))).run Tryz.prog w = .ok (.agg #[.int .i64 (T k).v, .int .i64 (T k).a, .int .i64 (T k).p, .int .i64 (T k).f, .int .i64 (T k).r]) w := by
  obtain ⟨e0, e1, e2, e3, e4⟩ := h k hk
  have hx : A.extract (k * 5) (k * 5 + 5) = #[.int .i64 (T k).v, .int .i64 (T k).a, .int .i64 (T k).p, .int .i64 (T k).f, .int .i64 (T k).r] := by
    apply Array.ext_getElem?
    intro i
    rw [Array.getElem?_extract]
    rcases Nat.lt_or_ge i 5 with hi | hi
    · rw [if_pos (by omega)]
      match i, hi with
      | 0, _ => simpa using e0
      | 1, _ => simpa using e1
      | 2, _ => simpa using e2
      | 3, _ => simpa using e3
      | 4, _ => simpa using e4
    · rw [if_neg (by omega), Array.getElem?_eq_none (by simp; omega)]
  have hs := size_line
  cases hq : Tryz.prog.info? 101 with
  | none => simp [hq] at hs
  | some i =>
    have hs' : i.size = 5 := by simpa [hq] using hs
    simp [Instr.index, asIntOf, Sem.run_bind, run_underlying Tryz.underlying102, part, isAgg, run_underlying Tryz.underlying101, sizeOf, typeInfo, hq, hs', hx]
    intro h8
    omega

end Go.Proofs.YtgnoakidjnilpaaGreat
