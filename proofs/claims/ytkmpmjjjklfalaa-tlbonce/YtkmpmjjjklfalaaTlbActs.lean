/-
  What came in, opened from the form's own reading: a line, a slice of acts, a slice of numbers; and two fresh buffers. No statement is proved here.
-/
import Derived.Test.YtkmpmjjjklfalaaTlbSame
import Derived.Deep.Fields
import Derived.SizedLaws
import Derived.OpenShut
import Derived.ShutString
import Derived.ChangeOld
namespace Go.Proofs.Ytkmpmjjjklfalaa
open Go.ChangeShapes Go.WideShapes Go.ChangeAt Go.RowKit Go.Deep

theorem own_knob : ownKnob Try.prog.godebug = none := by kernel_rfl
theorem laid_out : laidOutB Try.prog = true := by kernel_rfl
theorem cells_line : Try.prog.cellsOf 28 = 5 := by kernel_rfl
theorem cells_act : Try.prog.cellsOf 34 = 10 := by kernel_rfl
theorem cells_int : Try.prog.cellsOf 3 = 1 := by kernel_rfl

theorem field_one {cs : List Value} (i : Nat) (hi : i < cs.length) : (cs.drop i).take 1 = [cs[i]] := by
  rw [List.drop_eq_getElem_cons (by omega), List.take_succ_cons, List.take_zero]

/-- The cells of a line. -/
theorem line_cells {H : Type} {enc : TypeId × Value → H} {W : World} {n : Nat} {cs : List Value} {y : DataW H × List MemPlace} (h : DataW.trod enc Try.prog W 0 (fun _ => true) true n 28 cs = some y) :
    ∃ x : Ln, cs = [.int .i64 x.v, .int .i64 x.a, .int .i64 x.p, .int .i64 x.f, .int .i64 x.r] := by
  obtain ⟨xs, n', _, _, hl, hxl, hf⟩ := DataW.trod_struct Try.underlying28 h
  rw [cells_line] at hl
  have hxl' : xs.length = 5 := hxl
  have g0 : DataW.trod enc Try.prog W 0 (fun _ => true) true n' 3 ((cs.drop 0).take (Try.prog.cellsOf 3)) = xs[0]? := hf 0 _ rfl
  have g1 : DataW.trod enc Try.prog W 0 (fun _ => true) true n' 3 ((cs.drop 1).take (Try.prog.cellsOf 3)) = xs[1]? := hf 1 _ rfl
  have g2 : DataW.trod enc Try.prog W 0 (fun _ => true) true n' 3 ((cs.drop 2).take (Try.prog.cellsOf 3)) = xs[2]? := hf 2 _ rfl
  have g3 : DataW.trod enc Try.prog W 0 (fun _ => true) true n' 3 ((cs.drop 3).take (Try.prog.cellsOf 3)) = xs[3]? := hf 3 _ rfl
  have g4 : DataW.trod enc Try.prog W 0 (fun _ => true) true n' 3 ((cs.drop 4).take (Try.prog.cellsOf 3)) = xs[4]? := hf 4 _ rfl
  rw [cells_int, field_one 0 (by omega), List.getElem?_eq_getElem (by omega)] at g0
  rw [cells_int, field_one 1 (by omega), List.getElem?_eq_getElem (by omega)] at g1
  rw [cells_int, field_one 2 (by omega), List.getElem?_eq_getElem (by omega)] at g2
  rw [cells_int, field_one 3 (by omega), List.getElem?_eq_getElem (by omega)] at g3
  rw [cells_int, field_one 4 (by omega), List.getElem?_eq_getElem (by omega)] at g4
  obtain ⟨v, e0, _, _⟩ := DataW.trod_int Try.underlying3 g0
  obtain ⟨a, e1, _, _⟩ := DataW.trod_int Try.underlying3 g1
  obtain ⟨p, e2, _, _⟩ := DataW.trod_int Try.underlying3 g2
  obtain ⟨f, e3, _, _⟩ := DataW.trod_int Try.underlying3 g3
  obtain ⟨r, e4, _, _⟩ := DataW.trod_int Try.underlying3 g4
  simp only [List.cons.injEq, and_true] at e0 e1 e2 e3 e4
  refine ⟨⟨v, a, p, f, r⟩, ?_⟩
  match cs, hl with
  | [a', b', c', d', e'], _ =>
    simp only [List.getElem_cons_zero, List.getElem_cons_succ] at e0 e1 e2 e3 e4
    rw [e0, e1, e2, e3, e4]

theorem line_open {H : Type} {enc : TypeId × Value → H} {W : World} {r : Reach} {b0 : Nat} {x : Value} {d : DataW H} {ps : List MemPlace} (hv : Value.okWide Try.prog W r b0 28 x) (h : DataW.Trod enc Try.prog W 0 (fun _ => true) true 28 x d ps) :
    ∃ l : Ln, x = .agg #[.int .i64 l.v, .int .i64 l.a, .int .i64 l.p, .int .i64 l.f, .int .i64 l.r] := by
  obtain ⟨cs, rfl, _⟩ := okWide_struct Try.underlying28 hv
  obtain ⟨fuel, hf⟩ := h
  obtain ⟨l, e⟩ := line_cells hf
  refine ⟨l, ?_⟩
  have e' : cs.toList = [.int .i64 l.v, .int .i64 l.a, .int .i64 l.p, .int .i64 l.f, .int .i64 l.r] := by simpa [Value.cells] using e
  rw [show cs = cs.toList.toArray by simp, e']

/-- One act that lies from block b's place o on. -/
structure ActIs (w : World) (b o : Nat) (d i : Int) (x : Ln) (vm sp pg : Int) : Prop where
  c0 : w.cell? ⟨b, o, none⟩ = some (.int .i64 d)
  c1 : w.cell? ⟨b, o + 1, none⟩ = some (.int .i64 i)
  c2 : w.cell? ⟨b, o + 2, none⟩ = some (.int .i64 x.v)
  c3 : w.cell? ⟨b, o + 3, none⟩ = some (.int .i64 x.a)
  c4 : w.cell? ⟨b, o + 4, none⟩ = some (.int .i64 x.p)
  c5 : w.cell? ⟨b, o + 5, none⟩ = some (.int .i64 x.f)
  c6 : w.cell? ⟨b, o + 6, none⟩ = some (.int .i64 x.r)
  c7 : w.cell? ⟨b, o + 7, none⟩ = some (.int .i64 vm)
  c8 : w.cell? ⟨b, o + 8, none⟩ = some (.int .i64 sp)
  c9 : w.cell? ⟨b, o + 9, none⟩ = some (.int .i64 pg)

/-- A slice of acts. -/
def Acts (w : World) (a0 : Option Addr) (len : Nat) : Prop :=
  ∀ k, k < len → ∃ b o d i x vm sp pg, a0 = some ⟨b, o, none⟩ ∧ ActIs w b (o + k * 10) d i x vm sp pg

theorem ActIs.keep {S : Nat → Prop} {w w' : World} {b o : Nat} {d i : Int} {x : Ln} {vm sp pg : Int} (h : ActIs w b o d i x vm sp pg) (k : Fr S w w') (hs : ¬ S b) : ActIs w' b o d i x vm sp pg :=
  ⟨cell_keep k h.c0 hs, cell_keep k h.c1 hs, cell_keep k h.c2 hs, cell_keep k h.c3 hs, cell_keep k h.c4 hs, cell_keep k h.c5 hs, cell_keep k h.c6 hs, cell_keep k h.c7 hs, cell_keep k h.c8 hs, cell_keep k h.c9 hs⟩

/-- One act, opened. -/
theorem act_open {H : Type} {enc : TypeId × Value → H} {W : World} {n : Nat} {cs : List Value} {y : DataW H × List MemPlace} (b o : Nat) (hcell : ∀ j, j < 10 → W.cell? ⟨b, o + j, none⟩ = cs[j]?) (hl : cs.length = 10)
    (h : DataW.trod enc Try.prog W 0 (fun _ => true) true n 34 cs = some y) :
    ∃ d i x vm sp pg, ActIs W b o d i x vm sp pg := by
  obtain ⟨xs, n', _, _, _, hxl, hf⟩ := DataW.trod_struct Try.underlying34 h
  have hxl' : xs.length = 6 := hxl
  have g0 : DataW.trod enc Try.prog W 0 (fun _ => true) true n' 3 ((cs.drop 0).take (Try.prog.cellsOf 3)) = xs[0]? := hf 0 _ rfl
  have g1 : DataW.trod enc Try.prog W 0 (fun _ => true) true n' 3 ((cs.drop 1).take (Try.prog.cellsOf 3)) = xs[1]? := hf 1 _ rfl
  have g2 : DataW.trod enc Try.prog W 0 (fun _ => true) true n' 28 ((cs.drop 2).take (Try.prog.cellsOf 28)) = xs[2]? := hf 2 _ rfl
  have g3 : DataW.trod enc Try.prog W 0 (fun _ => true) true n' 3 ((cs.drop 7).take (Try.prog.cellsOf 3)) = xs[3]? := hf 3 _ rfl
  have g4 : DataW.trod enc Try.prog W 0 (fun _ => true) true n' 3 ((cs.drop 8).take (Try.prog.cellsOf 3)) = xs[4]? := hf 4 _ rfl
  have g5 : DataW.trod enc Try.prog W 0 (fun _ => true) true n' 3 ((cs.drop 9).take (Try.prog.cellsOf 3)) = xs[5]? := hf 5 _ rfl
  rw [cells_int, field_one 0 (by omega), List.getElem?_eq_getElem (by omega)] at g0
  rw [cells_int, field_one 1 (by omega), List.getElem?_eq_getElem (by omega)] at g1
  rw [cells_line, List.getElem?_eq_getElem (by omega)] at g2
  rw [cells_int, field_one 7 (by omega), List.getElem?_eq_getElem (by omega)] at g3
  rw [cells_int, field_one 8 (by omega), List.getElem?_eq_getElem (by omega)] at g4
  rw [cells_int, field_one 9 (by omega), List.getElem?_eq_getElem (by omega)] at g5
  obtain ⟨d, e0, _, _⟩ := DataW.trod_int Try.underlying3 g0
  obtain ⟨i, e1, _, _⟩ := DataW.trod_int Try.underlying3 g1
  obtain ⟨x, e2⟩ := line_cells g2
  obtain ⟨vm, e7, _, _⟩ := DataW.trod_int Try.underlying3 g3
  obtain ⟨sp, e8, _, _⟩ := DataW.trod_int Try.underlying3 g4
  obtain ⟨pg, e9, _, _⟩ := DataW.trod_int Try.underlying3 g5
  simp only [List.cons.injEq, and_true] at e0 e1 e7 e8 e9
  have k2 : ∀ j, j < 5 → cs[2 + j]? = [.int .i64 x.v, .int .i64 x.a, .int .i64 x.p, .int .i64 x.f, .int .i64 x.r][j]? := fun j hj => by
    rw [← e2, List.getElem?_take, if_pos hj, List.getElem?_drop]
  refine ⟨d, i, x, vm, sp, pg, ?_, ?_, ?_, ?_, ?_, ?_, ?_, ?_, ?_, ?_⟩
  · have := hcell 0 (by omega); rw [List.getElem?_eq_getElem (by omega), e0] at this; exact this
  · have := hcell 1 (by omega); rw [List.getElem?_eq_getElem (by omega), e1] at this; exact this
  · exact (hcell 2 (by omega)).trans (k2 0 (by omega))
  · exact (hcell 3 (by omega)).trans (k2 1 (by omega))
  · exact (hcell 4 (by omega)).trans (k2 2 (by omega))
  · exact (hcell 5 (by omega)).trans (k2 3 (by omega))
  · exact (hcell 6 (by omega)).trans (k2 4 (by omega))
  · have := hcell 7 (by omega); rw [List.getElem?_eq_getElem (by omega), e7] at this; exact this
  · have := hcell 8 (by omega); rw [List.getElem?_eq_getElem (by omega), e8] at this; exact this
  · have := hcell 9 (by omega); rw [List.getElem?_eq_getElem (by omega), e9] at this; exact this

/-- A slice of acts, opened. -/
theorem acts_open {H : Type} {enc : TypeId × Value → H} {W : World} {fuel : Nat} {a0 : Option Addr} {len cap : Nat} {y : DataW H × List MemPlace} (hf : DataW.trod enc Try.prog W 0 (fun _ => true) true fuel 22 [.slice a0 len cap] = some y) :
    len ≤ 9223372036854775807 ∧ Acts W a0 len := by
  rcases open_slice Try.underlying22 hf with ⟨hcs, _⟩ | ⟨a, l, c, m, n, D, Pl, hcs, _, hl, hm, hmm, hx, hel⟩
  · simp only [List.cons.injEq, Value.slice.injEq, and_true] at hcs
    obtain ⟨rfl, rfl, rfl⟩ := hcs
    exact ⟨by omega, fun k hk => by omega⟩
  · simp only [List.cons.injEq, Value.slice.injEq, and_true] at hcs
    obtain ⟨rfl, rfl, rfl⟩ := hcs
    have hmm' : m = cap := by simpa using hmm
    subst hmm'
    refine ⟨by simp only [maxLen] at hm; omega, fun k hk => ?_⟩
    rw [cells_act] at hel
    obtain ⟨b, o, spot⟩ := a
    have hspot : spot = none := by
      obtain ⟨cs', h1, _⟩ := hel 0 (by omega)
      obtain ⟨_, hlen, hc⟩ := World.cells?_some h1
      have := hc 0 (by omega)
      rw [List.getElem?_eq_getElem (by omega)] at this
      simpa [Addr.add] using World.cell?_spot this
    subst hspot
    obtain ⟨cs', h1, h2⟩ := hel k (by omega)
    obtain ⟨_, hlen, hc⟩ := World.cells?_some h1
    obtain ⟨d, i, x, vm, sp, pg, h3⟩ := act_open b (o + k * 10) (fun j hj => by
      have := hc j hj
      rwa [add_lit', add_lit'] at this) hlen h2
    exact ⟨b, o, d, i, x, vm, sp, pg, rfl, h3⟩

/-- A slice of numbers. -/
def Nums (w : World) (a0 : Option Addr) (len : Nat) : Prop :=
  ∀ k, k < len → ∃ (b o : Nat) (n : Int), a0 = some ⟨b, o, none⟩ ∧ w.cell? ⟨b, o + k, none⟩ = some (.int .i64 n)

theorem nums_open {H : Type} {enc : TypeId × Value → H} {W : World} {fuel : Nat} {a0 : Option Addr} {len cap : Nat} {y : DataW H × List MemPlace} (hf : DataW.trod enc Try.prog W 0 (fun _ => true) true fuel 50 [.slice a0 len cap] = some y) :
    len ≤ 9223372036854775807 ∧ Nums W a0 len := by
  rcases open_slice Try.underlying50 hf with ⟨hcs, _⟩ | ⟨a, l, c, m, n, D, Pl, hcs, _, hl, hm, hmm, hx, hel⟩
  · simp only [List.cons.injEq, Value.slice.injEq, and_true] at hcs
    obtain ⟨rfl, rfl, rfl⟩ := hcs
    exact ⟨by omega, fun k hk => by omega⟩
  · simp only [List.cons.injEq, Value.slice.injEq, and_true] at hcs
    obtain ⟨rfl, rfl, rfl⟩ := hcs
    have hmm' : m = cap := by simpa using hmm
    subst hmm'
    refine ⟨by simp only [maxLen] at hm; omega, fun k hk => ?_⟩
    rw [cells_int] at hel
    obtain ⟨b, o, spot⟩ := a
    have hspot : spot = none := by
      obtain ⟨cs', h1, _⟩ := hel 0 (by omega)
      obtain ⟨_, hlen, hc⟩ := World.cells?_some h1
      have := hc 0 (by omega)
      rw [List.getElem?_eq_getElem (by omega)] at this
      simpa [Addr.add] using World.cell?_spot this
    subst hspot
    obtain ⟨cs', h1, h2⟩ := hel k (by omega)
    obtain ⟨_, hlen, hc⟩ := World.cells?_some h1
    have h0 := hc 0 (by omega)
    rw [add_lit', add_lit', Nat.add_zero, Nat.mul_one] at h0
    match cs', hlen with
    | [c], _ =>
      obtain ⟨q, e, _, _⟩ := DataW.trod_int Try.underlying3 h2
      simp only [List.cons.injEq, and_true] at e
      subst e
      exact ⟨b, o, q, rfl, h0⟩

/-- Two fresh buffers. -/
theorem pair_new {w w1 : World} {bt : Nat} (f : Fr none' w w1) (hb : w.heap.size ≤ bt) (h : IsTlb w1 bt (fun _ => zl) 0 0) (o : Obj) (ho : o = .cells (Array.replicate 42 (.int .i64 0)) 31) :
    Pair (w1.alloc o) w.heap.size bt w1.heap.size (fun _ => zl) 0 0 := by
  subst ho
  exact ⟨hb, f.size, Nat.ne_of_lt h.lt, h.alloc _, buf_zero _ _, good_zero, uniq_zero, by omega, by omega⟩

/-- What two buffers of the call's own have turned, nothing old has. -/
theorem Fr.pair {w w1 w2 : World} {bt br : Nat} (f : Fr none' w w1) (g : Fr (two bt br) w1 w2) (h1 : w.heap.size ≤ bt) (h2 : w.heap.size ≤ br) : Fr none' w w2 :=
  ⟨g.os.trans f.os, g.tape.trans f.tape, g.output.trans f.output, Nat.le_trans f.size g.size, fun i hi hn => (g.block i (Nat.lt_of_lt_of_le hi f.size) (fun e => by
    have e' : i = bt ∨ i = br := e
    omega)).trans (f.block i hi hn)⟩

/-- What one buffer of the call's own has turned, nothing old has. -/
theorem Fr.lone {w w1 w2 : World} {bt : Nat} (f : Fr none' w w1) (g : Fr (at' bt) w1 w2) (h1 : w.heap.size ≤ bt) : Fr none' w w2 := f.newer g h1

end Go.Proofs.Ytkmpmjjjklfalaa
