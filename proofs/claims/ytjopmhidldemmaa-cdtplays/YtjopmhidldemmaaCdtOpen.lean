/-
  Acts and names that came in, opened from the form's own reading. No statement is proved here.
-/
import Derived.Test.YtjopmhidldemmaaRows
import Derived.Test.YtjopmhidldemmaaCdtBoth
import Derived.Deep.Fields
import Derived.SizedLaws
import Derived.OpenShut
import Derived.ShutString
import Derived.ChangeOld
namespace Go.Proofs.Ytjopmhidldemmaa
open Go.ChangeShapes Go.WideShapes Go.ChangeAt Go.RowKit Go.Deep

theorem own_knob : ownKnob Try.prog.godebug = none := by kernel_rfl
theorem cells_ref : Try.prog.cellsOf 33 = 2 := by kernel_rfl
theorem cells_act : Try.prog.cellsOf 35 = 5 := by kernel_rfl
theorem cells_int : Try.prog.cellsOf 3 = 1 := by kernel_rfl
theorem bounds_i64 {x : Int} (h : (Lit.int .i64 x).wf = true) : I64 x := by
  have h1 : IntKind.i64.min = -9223372036854775808 := rfl
  have h2 : IntKind.i64.max = 9223372036854775807 := rfl
  simp only [Lit.wf, h1, h2, Bool.and_eq_true, decide_eq_true_eq] at h
  exact h
theorem field_one {cs : List Value} (i : Nat) (hi : i < cs.length) : (cs.drop i).take 1 = [cs[i]] := by
  rw [List.drop_eq_getElem_cons (by omega), List.take_succ_cons, List.take_zero]

set_option maxRecDepth 100000 in
theorem ref_cells {H : Type} {enc : TypeId × Value → H} {W : World} {n : Nat} {cs : List Value} {y : DataW H × List MemPlace} (h : DataW.trod enc Try.prog W 0 (fun _ => true) true n 33 cs = some y) :
    ∃ a : Rf, cs = [.int .i64 a.n, .int .i64 a.i] ∧ a.Ok := by
  obtain ⟨xs, n', _, _, hl, hxl, hf⟩ := DataW.trod_struct Try.underlying33 h
  rw [cells_ref] at hl
  have hxl' : xs.length = 2 := hxl
  have g0 : DataW.trod enc Try.prog W 0 (fun _ => true) true n' 3 ((cs.drop 0).take (Try.prog.cellsOf 3)) = xs[0]? := hf 0 _ rfl
  have g1 : DataW.trod enc Try.prog W 0 (fun _ => true) true n' 3 ((cs.drop 1).take (Try.prog.cellsOf 3)) = xs[1]? := hf 1 _ rfl
  rw [cells_int, field_one 0 (by omega), List.getElem?_eq_getElem (by omega)] at g0
  rw [cells_int, field_one 1 (by omega), List.getElem?_eq_getElem (by omega)] at g1
  obtain ⟨a, e0, _, u0⟩ := DataW.trod_int Try.underlying3 g0
  obtain ⟨i, e1, _, u1⟩ := DataW.trod_int Try.underlying3 g1
  simp only [List.cons.injEq, and_true] at e0 e1
  refine ⟨⟨a, i⟩, ?_, bounds_i64 u0, bounds_i64 u1⟩
  match cs, hl with
  | [c0, c1], _ =>
    simp only [List.getElem_cons_zero, List.getElem_cons_succ] at e0 e1
    rw [e0, e1]

set_option maxRecDepth 100000 in
theorem ref_open {H : Type} {enc : TypeId × Value → H} {W : World} {r : Reach} {b0 : Nat} {x : Value} {d : DataW H} {ps : List MemPlace} (hv : Value.okWide Try.prog W r b0 33 x) (h : DataW.Trod enc Try.prog W 0 (fun _ => true) true 33 x d ps) :
    ∃ a : Rf, x = .agg #[.int .i64 a.n, .int .i64 a.i] ∧ a.Ok := by
  obtain ⟨cs, rfl, _⟩ := okWide_struct Try.underlying33 hv
  obtain ⟨fuel, hf⟩ := h
  obtain ⟨a, e, hb⟩ := ref_cells hf
  refine ⟨a, ?_, hb⟩
  have e' : cs.toList = [.int .i64 a.n, .int .i64 a.i] := by simpa [Value.cells] using e
  rw [show cs = cs.toList.toArray by simp, e']

def acC (x : Ac) : Array Value := #[.int .i64 x.op, .int .i64 x.a.n, .int .i64 x.a.i, .int .i64 x.b.n, .int .i64 x.b.i]

set_option maxRecDepth 100000 in
theorem act_cells {H : Type} {enc : TypeId × Value → H} {W : World} {n : Nat} {cs : List Value} {y : DataW H × List MemPlace} (h : DataW.trod enc Try.prog W 0 (fun _ => true) true n 35 cs = some y) :
    ∃ x : Ac, cs = (acC x).toList ∧ OkA x := by
  obtain ⟨xs, n', _, _, hl, hxl, hf⟩ := DataW.trod_struct Try.underlying35 h
  rw [cells_act] at hl
  have hxl' : xs.length = 3 := hxl
  have g0 : DataW.trod enc Try.prog W 0 (fun _ => true) true n' 3 ((cs.drop 0).take (Try.prog.cellsOf 3)) = xs[0]? := hf 0 _ rfl
  have g1 : DataW.trod enc Try.prog W 0 (fun _ => true) true n' 33 ((cs.drop 1).take (Try.prog.cellsOf 33)) = xs[1]? := hf 1 _ rfl
  have g2 : DataW.trod enc Try.prog W 0 (fun _ => true) true n' 33 ((cs.drop 3).take (Try.prog.cellsOf 33)) = xs[2]? := hf 2 _ rfl
  rw [cells_int, field_one 0 (by omega), List.getElem?_eq_getElem (by omega)] at g0
  rw [cells_ref, List.getElem?_eq_getElem (by omega)] at g1
  rw [cells_ref, List.getElem?_eq_getElem (by omega)] at g2
  obtain ⟨op, e0, _, _⟩ := DataW.trod_int Try.underlying3 g0
  obtain ⟨a, e1, u1⟩ := ref_cells g1
  obtain ⟨b, e2, u2⟩ := ref_cells g2
  simp only [List.cons.injEq, and_true] at e0
  refine ⟨⟨op, a, b⟩, ?_, u1, u2⟩
  match cs, hl with
  | [c0, c1, c2, c3, c4], _ =>
    simp only [List.getElem_cons_zero] at e0
    simp only [List.drop_succ_cons, List.drop_zero, List.take_succ_cons, List.take_zero] at e1 e2
    simp only [List.cons.injEq, and_true] at e1 e2
    obtain ⟨q0, q1⟩ := e1
    obtain ⟨p0, p1⟩ := e2
    rw [e0, q0, q1, p0, p1]
    rfl

/-- Acts that came in. -/
def Acs (w : World) (a0 : Option Addr) (len : Nat) (A : Nat → Ac) : Prop := ∀ k, k < len → ∃ b o, a0 = some ⟨b, o, none⟩ ∧ (∀ j, j < 5 → w.cell? ⟨b, o + k * 5 + j, none⟩ = (acC (A k))[j]?) ∧ OkA (A k)

theorem Acs.keep {w w' : World} {a0 : Option Addr} {len : Nat} {A : Nat → Ac} (h : Acs w a0 len A) (f : Fr none' w w') : Acs w' a0 len A := fun k hk => by
  obtain ⟨b, o, e, hc, ok⟩ := h k hk
  refine ⟨b, o, e, fun j hj => ?_, ok⟩
  have hj5 : j < (acC (A k)).size := hj
  have := hc j hj
  rw [Array.getElem?_eq_getElem hj5] at this ⊢
  exact cell_keep f this (fun h => h)

theorem acs_of {W : World} {a0 : Option Addr} {len : Nat} (h : ∀ k, k < len → ∃ b o a, a0 = some ⟨b, o, none⟩ ∧ (∀ j, j < 5 → W.cell? ⟨b, o + k * 5 + j, none⟩ = (acC a)[j]?) ∧ OkA a) : ∃ A, Acs W a0 len A := by
  have h' : ∀ k, ∃ a, k < len → ∃ b o, a0 = some ⟨b, o, none⟩ ∧ (∀ j, j < 5 → W.cell? ⟨b, o + k * 5 + j, none⟩ = (acC a)[j]?) ∧ OkA a := fun k => by
    by_cases hk : k < len
    · obtain ⟨b, o, a, e, hq⟩ := h k hk
      exact ⟨a, fun _ => ⟨b, o, e, hq⟩⟩
    · exact ⟨⟨0, rf0, rf0⟩, fun hh => absurd hh hk⟩
  exact ⟨fun k => Classical.choose (h' k), fun k hk => Classical.choose_spec (h' k) hk⟩

set_option maxRecDepth 100000 in
theorem acts_open {H : Type} {enc : TypeId × Value → H} {W : World} {fuel : Nat} {a0 : Option Addr} {len cap : Nat} {y : DataW H × List MemPlace} (hf : DataW.trod enc Try.prog W 0 (fun _ => true) true fuel 22 [.slice a0 len cap] = some y) :
    len ≤ 9223372036854775807 ∧ ∃ A, Acs W a0 len A := by
  rcases open_slice Try.underlying22 hf with ⟨hcs, _⟩ | ⟨a, l, c, m, n, D, Pl, hcs, _, hl, hm, hmm, hx, hel⟩
  · simp only [List.cons.injEq, Value.slice.injEq, and_true] at hcs
    obtain ⟨rfl, rfl, rfl⟩ := hcs
    exact ⟨by omega, fun _ => ⟨0, rf0, rf0⟩, fun k hk => by omega⟩
  · simp only [List.cons.injEq, Value.slice.injEq, and_true] at hcs
    obtain ⟨rfl, rfl, rfl⟩ := hcs
    have hmm' : m = cap := by simpa using hmm
    subst hmm'
    refine ⟨by simp only [maxLen] at hm; omega, acs_of fun k hk => ?_⟩
    rw [cells_act] at hel
    obtain ⟨b, o, spot⟩ := a
    have hspot : spot = none := by
      obtain ⟨cs', h1, _⟩ := hel 0 (by omega)
      obtain ⟨_, hlen, hc⟩ := World.cells?_some h1
      have := hc 0 (by omega)
      rw [List.getElem?_eq_getElem (by omega)] at this
      simpa [Addr.add] using World.cell?_spot this
    subst hspot
    obtain ⟨cs', h1, h2⟩ := hel k (by omega)
    obtain ⟨_, hlen, hc⟩ := World.cells?_some h1
    obtain ⟨q, e, hb⟩ := act_cells h2
    have hcell : ∀ j, j < 5 → W.cell? ⟨b, o + k * 5 + j, none⟩ = cs'[j]? := fun j hj => by have := hc j hj; rwa [add_lit', add_lit'] at this
    rw [e] at hcell
    exact ⟨b, o, q, rfl, fun j hj => by rw [hcell j hj]; simp, hb⟩

/-- The forest behind k acts. -/
def runA (A : Nat → Ac) : Nat → List En
  | 0 => []
  | k + 1 => stepF (runA A k) (A k)

/-- The program's forest, newer than w0. -/
structure Pr (w0 w : World) (t : Nat) (F : List En) : Prop where
  ex : ∃ T, IsT w t T ∧ T.F = F ∧ ∀ k, T.s t k → w0.heap.size ≤ k
  wf : Wf F
  ln : F.length ≤ 200
  fr : Fr none' w0 w

end Go.Proofs.Ytjopmhidldemmaa
