/-
  What came in, opened from the form's own reading: a slice of acts, a slice of numbers, a slice of flags. No statement is proved here.
-/
import Derived.Test.YtlbflaebjicmaaaVgDoes
import Derived.Deep.Fields
import Derived.SizedLaws
import Derived.OpenShut
import Derived.ShutString
import Derived.ChangeOld
namespace Go.Proofs.Ytlbflaebjicmaaa
open Go.ChangeShapes Go.WideShapes Go.ChangeAt Go.RowKit Go.Deep

theorem own_knob : ownKnob Try.prog.godebug = none := by kernel_rfl
theorem laid_out : laidOutB Try.prog = true := by kernel_rfl
theorem cells_act : Try.prog.cellsOf 35 = 4 := by kernel_rfl
theorem cells_int : Try.prog.cellsOf 3 = 1 := by kernel_rfl
theorem cells_bool : Try.prog.cellsOf 4 = 1 := by kernel_rfl

theorem field_one {cs : List Value} (i : Nat) (hi : i < cs.length) : (cs.drop i).take 1 = [cs[i]] := by
  rw [List.drop_eq_getElem_cons (by omega), List.take_succ_cons, List.take_zero]

/-- One act that lies from block b's place o on. -/
structure ActIs (w : World) (b o : Nat) (d n x : Int) (on : Bool) : Prop where
  c0 : w.cell? ⟨b, o, none⟩ = some (.int .i64 d)
  c1 : w.cell? ⟨b, o + 1, none⟩ = some (.int .i64 n)
  c2 : w.cell? ⟨b, o + 2, none⟩ = some (.int .i64 x)
  c3 : w.cell? ⟨b, o + 3, none⟩ = some (.bool on)

/-- A slice of acts. -/
def Acts (w : World) (a0 : Option Addr) (len : Nat) : Prop :=
  ∀ k, k < len → ∃ b o d n x on, a0 = some ⟨b, o, none⟩ ∧ ActIs w b (o + k * 4) d n x on

theorem ActIs.keep {S : Nat → Prop} {w w' : World} {b o : Nat} {d n x : Int} {on : Bool} (h : ActIs w b o d n x on) (k : Fr S w w') (hs : ¬ S b) : ActIs w' b o d n x on :=
  ⟨cell_keep k h.c0 hs, cell_keep k h.c1 hs, cell_keep k h.c2 hs, cell_keep k h.c3 hs⟩

/-- One act, opened. -/
theorem act_open {H : Type} {enc : TypeId × Value → H} {W : World} {n : Nat} {cs : List Value} {y : DataW H × List MemPlace} (b o : Nat) (hcell : ∀ j, j < 4 → W.cell? ⟨b, o + j, none⟩ = cs[j]?) (hl : cs.length = 4)
    (h : DataW.trod enc Try.prog W 0 (fun _ => true) true n 35 cs = some y) :
    ∃ d n x on, ActIs W b o d n x on := by
  obtain ⟨xs, n', _, _, _, hxl, hf⟩ := DataW.trod_struct Try.underlying35 h
  have hxl' : xs.length = 4 := hxl
  have g0 : DataW.trod enc Try.prog W 0 (fun _ => true) true n' 3 ((cs.drop 0).take (Try.prog.cellsOf 3)) = xs[0]? := hf 0 _ rfl
  have g1 : DataW.trod enc Try.prog W 0 (fun _ => true) true n' 3 ((cs.drop 1).take (Try.prog.cellsOf 3)) = xs[1]? := hf 1 _ rfl
  have g2 : DataW.trod enc Try.prog W 0 (fun _ => true) true n' 3 ((cs.drop 2).take (Try.prog.cellsOf 3)) = xs[2]? := hf 2 _ rfl
  have g3 : DataW.trod enc Try.prog W 0 (fun _ => true) true n' 4 ((cs.drop 3).take (Try.prog.cellsOf 4)) = xs[3]? := hf 3 _ rfl
  rw [cells_int, field_one 0 (by omega), List.getElem?_eq_getElem (by omega)] at g0
  rw [cells_int, field_one 1 (by omega), List.getElem?_eq_getElem (by omega)] at g1
  rw [cells_int, field_one 2 (by omega), List.getElem?_eq_getElem (by omega)] at g2
  rw [cells_bool, field_one 3 (by omega), List.getElem?_eq_getElem (by omega)] at g3
  obtain ⟨d, e0, _, _⟩ := DataW.trod_int Try.underlying3 g0
  obtain ⟨n, e1, _, _⟩ := DataW.trod_int Try.underlying3 g1
  obtain ⟨x, e2, _, _⟩ := DataW.trod_int Try.underlying3 g2
  obtain ⟨on, e3, _⟩ := DataW.trod_bool Try.underlying4 g3
  simp only [List.cons.injEq, and_true] at e0 e1 e2 e3
  refine ⟨d, n, x, on, ?_, ?_, ?_, ?_⟩
  · have := hcell 0 (by omega); rw [List.getElem?_eq_getElem (by omega), e0] at this; exact this
  · have := hcell 1 (by omega); rw [List.getElem?_eq_getElem (by omega), e1] at this; exact this
  · have := hcell 2 (by omega); rw [List.getElem?_eq_getElem (by omega), e2] at this; exact this
  · have := hcell 3 (by omega); rw [List.getElem?_eq_getElem (by omega), e3] at this; exact this

/-- A slice of acts, opened. -/
theorem acts_open {H : Type} {enc : TypeId × Value → H} {W : World} {fuel : Nat} {a0 : Option Addr} {len cap : Nat} {y : DataW H × List MemPlace} (hf : DataW.trod enc Try.prog W 0 (fun _ => true) true fuel 22 [.slice a0 len cap] = some y) :
    len ≤ 9223372036854775807 ∧ Acts W a0 len := by
  rcases open_slice Try.underlying22 hf with ⟨hcs, _⟩ | ⟨a, l, c, m, n, D, Pl, hcs, _, hl, hm, hmm, hx, hel⟩
  · simp only [List.cons.injEq, Value.slice.injEq, and_true] at hcs
    obtain ⟨rfl, rfl, rfl⟩ := hcs
    exact ⟨by omega, fun k hk => by omega⟩
  · simp only [List.cons.injEq, Value.slice.injEq, and_true] at hcs
    obtain ⟨rfl, rfl, rfl⟩ := hcs
    have hmm' : m = cap := by simpa using hmm
    subst hmm'
    refine ⟨by simp only [maxLen] at hm; omega, fun k hk => ?_⟩
    rw [cells_act] at hel
    obtain ⟨b, o, spot⟩ := a
    have hspot : spot = none := by
      obtain ⟨cs', h1, _⟩ := hel 0 (by omega)
      obtain ⟨_, hlen, hc⟩ := World.cells?_some h1
      have := hc 0 (by omega)
      rw [List.getElem?_eq_getElem (by omega)] at this
      simpa [Addr.add] using World.cell?_spot this
    subst hspot
    obtain ⟨cs', h1, h2⟩ := hel k (by omega)
    obtain ⟨_, hlen, hc⟩ := World.cells?_some h1
    obtain ⟨d, n1, x, on, h3⟩ := act_open b (o + k * 4) (fun j hj => by
      have := hc j hj
      rwa [add_lit', add_lit'] at this) hlen h2
    exact ⟨b, o, d, n1, x, on, rfl, h3⟩

/-- A slice of numbers. -/
def Nums (w : World) (a0 : Option Addr) (len : Nat) : Prop :=
  ∀ k, k < len → ∃ (b o : Nat) (n : Int), a0 = some ⟨b, o, none⟩ ∧ w.cell? ⟨b, o + k, none⟩ = some (.int .i64 n)

theorem nums_open {H : Type} {enc : TypeId × Value → H} {W : World} {fuel : Nat} {a0 : Option Addr} {len cap : Nat} {y : DataW H × List MemPlace} (hf : DataW.trod enc Try.prog W 0 (fun _ => true) true fuel 54 [.slice a0 len cap] = some y) :
    len ≤ 9223372036854775807 ∧ Nums W a0 len := by
  rcases open_slice Try.underlying54 hf with ⟨hcs, _⟩ | ⟨a, l, c, m, n, D, Pl, hcs, _, hl, hm, hmm, hx, hel⟩
  · simp only [List.cons.injEq, Value.slice.injEq, and_true] at hcs
    obtain ⟨rfl, rfl, rfl⟩ := hcs
    exact ⟨by omega, fun k hk => by omega⟩
  · simp only [List.cons.injEq, Value.slice.injEq, and_true] at hcs
    obtain ⟨rfl, rfl, rfl⟩ := hcs
    have hmm' : m = cap := by simpa using hmm
    subst hmm'
    refine ⟨by simp only [maxLen] at hm; omega, fun k hk => ?_⟩
    rw [cells_int] at hel
    obtain ⟨b, o, spot⟩ := a
    have hspot : spot = none := by
      obtain ⟨cs', h1, _⟩ := hel 0 (by omega)
      obtain ⟨_, hlen, hc⟩ := World.cells?_some h1
      have := hc 0 (by omega)
      rw [List.getElem?_eq_getElem (by omega)] at this
      simpa [Addr.add] using World.cell?_spot this
    subst hspot
    obtain ⟨cs', h1, h2⟩ := hel k (by omega)
    obtain ⟨_, hlen, hc⟩ := World.cells?_some h1
    have h0 := hc 0 (by omega)
    rw [add_lit', add_lit', Nat.add_zero, Nat.mul_one] at h0
    match cs', hlen with
    | [c], _ =>
      obtain ⟨q, e, _, _⟩ := DataW.trod_int Try.underlying3 h2
      simp only [List.cons.injEq, and_true] at e
      subst e
      exact ⟨b, o, q, rfl, h0⟩

/-- A slice of flags. -/
def Flags (w : World) (a0 : Option Addr) (len : Nat) : Prop :=
  ∀ k, k < len → ∃ (b o : Nat) (n : Bool), a0 = some ⟨b, o, none⟩ ∧ w.cell? ⟨b, o + k, none⟩ = some (.bool n)

theorem flags_open {H : Type} {enc : TypeId × Value → H} {W : World} {fuel : Nat} {a0 : Option Addr} {len cap : Nat} {y : DataW H × List MemPlace} (hf : DataW.trod enc Try.prog W 0 (fun _ => true) true fuel 55 [.slice a0 len cap] = some y) :
    len ≤ 9223372036854775807 ∧ Flags W a0 len := by
  rcases open_slice Try.underlying55 hf with ⟨hcs, _⟩ | ⟨a, l, c, m, n, D, Pl, hcs, _, hl, hm, hmm, hx, hel⟩
  · simp only [List.cons.injEq, Value.slice.injEq, and_true] at hcs
    obtain ⟨rfl, rfl, rfl⟩ := hcs
    exact ⟨by omega, fun k hk => by omega⟩
  · simp only [List.cons.injEq, Value.slice.injEq, and_true] at hcs
    obtain ⟨rfl, rfl, rfl⟩ := hcs
    have hmm' : m = cap := by simpa using hmm
    subst hmm'
    refine ⟨by simp only [maxLen] at hm; omega, fun k hk => ?_⟩
    rw [cells_bool] at hel
    obtain ⟨b, o, spot⟩ := a
    have hspot : spot = none := by
      obtain ⟨cs', h1, _⟩ := hel 0 (by omega)
      obtain ⟨_, hlen, hc⟩ := World.cells?_some h1
      have := hc 0 (by omega)
      rw [List.getElem?_eq_getElem (by omega)] at this
      simpa [Addr.add] using World.cell?_spot this
    subst hspot
    obtain ⟨cs', h1, h2⟩ := hel k (by omega)
    obtain ⟨_, hlen, hc⟩ := World.cells?_some h1
    have h0 := hc 0 (by omega)
    rw [add_lit', add_lit', Nat.add_zero, Nat.mul_one] at h0
    match cs', hlen with
    | [c], _ =>
      obtain ⟨q, e, _⟩ := DataW.trod_bool Try.underlying4 h2
      simp only [List.cons.injEq, and_true] at e
      subst e
      exact ⟨b, o, q, rfl, h0⟩

theorem Fr.lone {w w1 w2 : World} {B : Bk} (f : Fr none' w w1) (g : Fr B.s w1 w2) (h1 : ∀ k, B.s k → w.heap.size ≤ k) : Fr none' w w2 :=
  ⟨g.os.trans f.os, g.tape.trans f.tape, g.output.trans f.output, Nat.le_trans f.size g.size, fun i hi hn => (g.block i (Nat.lt_of_lt_of_le hi f.size) (fun e => by have := h1 i e; omega)).trans (f.block i hi hn)⟩

end Go.Proofs.Ytlbflaebjicmaaa
