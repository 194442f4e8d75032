/-
  Acts that came in: where they lie and what they hold, kept while the call writes its own blocks; a slice of acts, opened from the form's own reading. No statement is proved here.
-/
import Derived.Test.YtefjincghkdeiaaEntOpen
import Derived.Test.YtefjincghkdeiaaPteDoes
namespace Go.Proofs.Ytefjincghkdeiaa
open Go.ChangeShapes Go.WideShapes Go.ChangeAt Go.RowKit Go.Deep

/-- One act that lies from block b's place o on. -/
structure ActIs (w : World) (b o : Nat) (dO t i : Int) (v l : Bool) (r f : Int) (x : Nat) : Prop where
  c0 : w.cell? ⟨b, o, none⟩ = some (.int .i64 dO)
  c1 : w.cell? ⟨b, o + 1, none⟩ = some (.int .i64 t)
  c2 : w.cell? ⟨b, o + 2, none⟩ = some (.int .i64 i)
  c3 : w.cell? ⟨b, o + 3, none⟩ = some (.bool v)
  c4 : w.cell? ⟨b, o + 4, none⟩ = some (.bool l)
  c5 : w.cell? ⟨b, o + 5, none⟩ = some (.int .i64 r)
  c6 : w.cell? ⟨b, o + 6, none⟩ = some (.int .i64 f)
  c7 : w.cell? ⟨b, o + 7, none⟩ = some (.int .u16 (x : Int))
  word : x < 65536

/-- A row of acts. -/
structure Acts (w : World) (B b o len : Nat) : Prop where
  old : b < B
  each : ∀ i, i < len → ∃ dO t j v l r f x, ActIs w b (o + i * 8) dO t j v l r f x

theorem ActIs.keep {S : Nat → Prop} {w w' : World} {b o : Nat} {dO t i : Int} {v l : Bool} {r f : Int} {x : Nat} (h : ActIs w b o dO t i v l r f x) (k : Fr S w w') (hs : ¬ S b) : ActIs w' b o dO t i v l r f x :=
  ⟨cell_keep k h.c0 hs, cell_keep k h.c1 hs, cell_keep k h.c2 hs, cell_keep k h.c3 hs, cell_keep k h.c4 hs, cell_keep k h.c5 hs, cell_keep k h.c6 hs, cell_keep k h.c7 hs, h.word⟩

theorem Acts.keep {S : Nat → Prop} {w w' : World} {B b o len : Nat} (h : Acts w B b o len) (k : Fr S w w') (hs : ¬ S b) : Acts w' B b o len :=
  ⟨h.old, fun i hi => by
    obtain ⟨dO, t, j, v, l, r, f, x, h'⟩ := h.each i hi
    exact ⟨dO, t, j, v, l, r, f, x, h'.keep k hs⟩⟩

theorem cells_act : Try.prog.cellsOf 45 = 8 := by kernel_rfl
theorem cells_u16 : Try.prog.cellsOf 24 = 1 := by kernel_rfl

/-- One act, opened. -/
theorem act_open {H : Type} {enc : TypeId × Value → H} {W : World} {n : Nat} {cs : List Value} {y : DataW H × List MemPlace} (b o : Nat) (hcell : ∀ j, j < 8 → W.cell? ⟨b, o + j, none⟩ = cs[j]?) (hl : cs.length = 8)
    (h : DataW.trod enc Try.prog W 0 (fun _ => true) true n 45 cs = some y) :
    ∃ dO t i v l r f x, ActIs W b o dO t i v l r f x := by
  obtain ⟨xs, n', _, _, _, hxl, hf⟩ := DataW.trod_struct Try.underlying45 h
  have hxl' : xs.length = 5 := hxl
  have g0 : DataW.trod enc Try.prog W 0 (fun _ => true) true n' 3 ((cs.drop 0).take (Try.prog.cellsOf 3)) = xs[0]? := hf 0 _ rfl
  have g1 : DataW.trod enc Try.prog W 0 (fun _ => true) true n' 3 ((cs.drop 1).take (Try.prog.cellsOf 3)) = xs[1]? := hf 1 _ rfl
  have g2 : DataW.trod enc Try.prog W 0 (fun _ => true) true n' 3 ((cs.drop 2).take (Try.prog.cellsOf 3)) = xs[2]? := hf 2 _ rfl
  have g3 : DataW.trod enc Try.prog W 0 (fun _ => true) true n' 23 ((cs.drop 3).take (Try.prog.cellsOf 23)) = xs[3]? := hf 3 _ rfl
  have g4 : DataW.trod enc Try.prog W 0 (fun _ => true) true n' 24 ((cs.drop 7).take (Try.prog.cellsOf 24)) = xs[4]? := hf 4 _ rfl
  rw [cells_int, field_one 0 (by omega), List.getElem?_eq_getElem (by omega)] at g0
  rw [cells_int, field_one 1 (by omega), List.getElem?_eq_getElem (by omega)] at g1
  rw [cells_int, field_one 2 (by omega), List.getElem?_eq_getElem (by omega)] at g2
  rw [cells_ent, List.getElem?_eq_getElem (by omega)] at g3
  rw [cells_u16, field_one 7 (by omega), List.getElem?_eq_getElem (by omega)] at g4
  obtain ⟨dO, e0, _, _⟩ := DataW.trod_int Try.underlying3 g0
  obtain ⟨t, e1, _, _⟩ := DataW.trod_int Try.underlying3 g1
  obtain ⟨i, e2, _, _⟩ := DataW.trod_int Try.underlying3 g2
  obtain ⟨v, l, r, f, e3⟩ := ent_cells g3
  obtain ⟨x, e7, _, wx⟩ := DataW.trod_int Try.underlying24 g4
  simp only [List.cons.injEq, and_true] at e0 e1 e2 e7
  have hx := bounds_u16 wx
  obtain ⟨x, rfl⟩ := Int.eq_ofNat_of_zero_le hx.1
  have k3 : ∀ j, j < 4 → cs[3 + j]? = [.bool v, .bool l, .int .i64 r, .int .i64 f][j]? := fun j hj => by
    rw [← e3, List.getElem?_take, if_pos hj, List.getElem?_drop]
  refine ⟨dO, t, i, v, l, r, f, x, ?_, ?_, ?_, ?_, ?_, ?_, ?_, ?_, by omega⟩
  · have := hcell 0 (by omega); rw [List.getElem?_eq_getElem (by omega), e0] at this; exact this
  · have := hcell 1 (by omega); rw [List.getElem?_eq_getElem (by omega), e1] at this; exact this
  · have := hcell 2 (by omega); rw [List.getElem?_eq_getElem (by omega), e2] at this; exact this
  · exact (hcell 3 (by omega)).trans (k3 0 (by omega))
  · exact (hcell 4 (by omega)).trans (k3 1 (by omega))
  · exact (hcell 5 (by omega)).trans (k3 2 (by omega))
  · exact (hcell 6 (by omega)).trans (k3 3 (by omega))
  · have := hcell 7 (by omega); rw [List.getElem?_eq_getElem (by omega), e7] at this; exact this

/-- A slice of acts, opened. -/
theorem acts_open {H : Type} {enc : TypeId × Value → H} {W : World} {fuel : Nat} {a0 : Option Addr} {len cap : Nat} {y : DataW H × List MemPlace} (hf : DataW.trod enc Try.prog W 0 (fun _ => true) true fuel 36 [.slice a0 len cap] = some y) :
    len ≤ 9223372036854775807 ∧ (len = 0 ∨ ∃ b o, a0 = some ⟨b, o, none⟩ ∧ Acts W W.heap.size b o len) := by
  rcases open_slice Try.underlying36 hf with ⟨hcs, _⟩ | ⟨a, l, c, m, n, D, Pl, hcs, _, hl, hm, hmm, hx, hel⟩
  · simp only [List.cons.injEq, Value.slice.injEq, and_true] at hcs
    obtain ⟨rfl, rfl, rfl⟩ := hcs
    exact ⟨by omega, Or.inl rfl⟩
  · simp only [List.cons.injEq, Value.slice.injEq, and_true] at hcs
    obtain ⟨rfl, rfl, rfl⟩ := hcs
    have hmm' : m = cap := by simpa using hmm
    subst hmm'
    refine ⟨by simp only [maxLen] at hm; omega, ?_⟩
    by_cases hz : len = 0
    · exact Or.inl hz
    right
    rw [cells_act] at hel
    obtain ⟨b, o, spot⟩ := a
    have hspot : spot = none := by
      obtain ⟨cs', h1, _⟩ := hel 0 (by omega)
      obtain ⟨_, hlen, hc⟩ := World.cells?_some h1
      have := hc 0 (by omega)
      rw [List.getElem?_eq_getElem (by omega)] at this
      simpa [Addr.add] using World.cell?_spot this
    subst hspot
    have hcells : ∀ i, i < m → ∃ cs', cs'.length = 8 ∧ (∀ j, j < 8 → W.cell? ⟨b, o + i * 8 + j, none⟩ = cs'[j]?) ∧ DataW.trod enc Try.prog W 0 (fun _ => true) true n 45 cs' = some (D i, Pl i) := fun i hi => by
      obtain ⟨cs', h1, h2⟩ := hel i hi
      obtain ⟨_, hlen, hc⟩ := World.cells?_some h1
      refine ⟨cs', hlen, fun j hj => ?_, h2⟩
      have := hc j hj
      rwa [add_lit', add_lit'] at this
    refine ⟨b, o, rfl, ?_, fun i hi => ?_⟩
    · obtain ⟨cs', hlen, hc, _⟩ := hcells 0 (by omega)
      have := hc 0 (by omega)
      rw [List.getElem?_eq_getElem (by omega)] at this
      exact cell_lt this
    · obtain ⟨cs', hlen, hc, h2⟩ := hcells i (by omega)
      exact act_open b (o + i * 8) hc hlen h2

end Go.Proofs.Ytefjincghkdeiaa
