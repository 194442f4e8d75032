/-
  Regions and acts that came in, opened from the form's own reading. No statement is proved here.
-/
import Derived.Test.YtcmhndkbcfpbbaaRows
import Derived.Test.YtcmhndkbcfpbbaaUtRow
import Derived.Deep.Fields
import Derived.SizedLaws
import Derived.OpenShut
import Derived.ShutString
import Derived.ChangeOld
namespace Go.Proofs.Ytcmhndkbcfpbbaa
open Go.ChangeShapes Go.WideShapes Go.ChangeAt Go.RowKit Go.Deep

theorem own_knob : ownKnob Try.prog.godebug = none := by kernel_rfl
theorem laid_out : laidOutB Try.prog = true := by kernel_rfl
theorem cells_reg : Try.prog.cellsOf 39 = 4 := by kernel_rfl
theorem cells_act : Try.prog.cellsOf 41 = 10 := by kernel_rfl
theorem cells_int : Try.prog.cellsOf 3 = 1 := by kernel_rfl
theorem cells_bool : Try.prog.cellsOf 4 = 1 := by kernel_rfl
theorem bounds_i64 {x : Int} (h : (Lit.int .i64 x).wf = true) : I64 x := by
  have h1 : IntKind.i64.min = -9223372036854775808 := rfl
  have h2 : IntKind.i64.max = 9223372036854775807 := rfl
  simp only [Lit.wf, h1, h2, Bool.and_eq_true, decide_eq_true_eq] at h
  exact h
theorem field_one {cs : List Value} (i : Nat) (hi : i < cs.length) : (cs.drop i).take 1 = [cs[i]] := by
  rw [List.drop_eq_getElem_cons (by omega), List.take_succ_cons, List.take_zero]

/-- All its numbers are a machine's. -/
def OkG (x : Rg) : Prop := I64 x.f ∧ I64 x.n ∧ I64 x.m

set_option maxRecDepth 100000 in
theorem reg_cells {H : Type} {enc : TypeId × Value → H} {W : World} {n : Nat} {cs : List Value} {y : DataW H × List MemPlace} (h : DataW.trod enc Try.prog W 0 (fun _ => true) true n 39 cs = some y) :
    ∃ a : Rg, cs = [.int .i64 a.f, .int .i64 a.n, .int .i64 a.m, .bool a.d] ∧ OkG a := by
  obtain ⟨xs, n', _, _, hl, hxl, hf⟩ := DataW.trod_struct Try.underlying39 h
  rw [cells_reg] at hl
  have hxl' : xs.length = 4 := hxl
  have g0 : DataW.trod enc Try.prog W 0 (fun _ => true) true n' 3 ((cs.drop 0).take (Try.prog.cellsOf 3)) = xs[0]? := hf 0 _ rfl
  have g1 : DataW.trod enc Try.prog W 0 (fun _ => true) true n' 3 ((cs.drop 1).take (Try.prog.cellsOf 3)) = xs[1]? := hf 1 _ rfl
  have g2 : DataW.trod enc Try.prog W 0 (fun _ => true) true n' 3 ((cs.drop 2).take (Try.prog.cellsOf 3)) = xs[2]? := hf 2 _ rfl
  have g3 : DataW.trod enc Try.prog W 0 (fun _ => true) true n' 4 ((cs.drop 3).take (Try.prog.cellsOf 4)) = xs[3]? := hf 3 _ rfl
  rw [cells_int, field_one 0 (by omega), List.getElem?_eq_getElem (by omega)] at g0
  rw [cells_int, field_one 1 (by omega), List.getElem?_eq_getElem (by omega)] at g1
  rw [cells_int, field_one 2 (by omega), List.getElem?_eq_getElem (by omega)] at g2
  rw [cells_bool, field_one 3 (by omega), List.getElem?_eq_getElem (by omega)] at g3
  obtain ⟨a0, e0, _, u0⟩ := DataW.trod_int Try.underlying3 g0
  obtain ⟨a1, e1, _, u1⟩ := DataW.trod_int Try.underlying3 g1
  obtain ⟨a2, e2, _, u2⟩ := DataW.trod_int Try.underlying3 g2
  obtain ⟨a3, e3, _⟩ := DataW.trod_bool Try.underlying4 g3
  simp only [List.cons.injEq, and_true] at e0 e1 e2 e3
  refine ⟨⟨a0, a1, a2, a3⟩, ?_, bounds_i64 u0, bounds_i64 u1, bounds_i64 u2⟩
  match cs, hl with
  | [c0, c1, c2, c3], _ =>
    simp only [List.getElem_cons_zero, List.getElem_cons_succ] at e0 e1 e2 e3
    rw [e0, e1, e2, e3]

set_option maxRecDepth 100000 in
theorem reg_open {H : Type} {enc : TypeId × Value → H} {W : World} {r : Reach} {b0 : Nat} {x : Value} {d : DataW H} {ps : List MemPlace} (hv : Value.okWide Try.prog W r b0 39 x) (h : DataW.Trod enc Try.prog W 0 (fun _ => true) true 39 x d ps) :
    ∃ a : Rg, x = rgV a ∧ OkG a := by
  obtain ⟨cs, rfl, _⟩ := okWide_struct Try.underlying39 hv
  obtain ⟨fuel, hf⟩ := h
  obtain ⟨a, e, hb⟩ := reg_cells hf
  refine ⟨a, ?_, hb⟩
  have e' : cs.toList = [.int .i64 a.f, .int .i64 a.n, .int .i64 a.m, .bool a.d] := by simpa [Value.cells] using e
  rw [show cs = cs.toList.toArray by simp, e']

/-- An act: what, First, X, Kind, Frames, Count, Units. -/
structure Ac where
  op : Int
  f : Int
  x : Rg
  k : Int
  n : Int
  c : Int
  u : Int
def OkA (x : Ac) : Prop := I64 x.op ∧ I64 x.f ∧ OkG x.x ∧ I64 x.k ∧ I64 x.n ∧ I64 x.c ∧ I64 x.u
def acC (a : Ac) : Array Value := #[.int .i64 a.op, .int .i64 a.f, .int .i64 a.x.f, .int .i64 a.x.n, .int .i64 a.x.m, .bool a.x.d, .int .i64 a.k, .int .i64 a.n, .int .i64 a.c, .int .i64 a.u]
abbrev acV (a : Ac) : Value := .agg (acC a)

set_option maxRecDepth 100000 in
theorem act_cells {H : Type} {enc : TypeId × Value → H} {W : World} {n : Nat} {cs : List Value} {y : DataW H × List MemPlace} (h : DataW.trod enc Try.prog W 0 (fun _ => true) true n 41 cs = some y) :
    ∃ x : Ac, cs = (acC x).toList ∧ OkA x := by
  obtain ⟨xs, n', _, _, hl, hxl, hf⟩ := DataW.trod_struct Try.underlying41 h
  rw [cells_act] at hl
  have hxl' : xs.length = 7 := hxl
  have g0 : DataW.trod enc Try.prog W 0 (fun _ => true) true n' 3 ((cs.drop 0).take (Try.prog.cellsOf 3)) = xs[0]? := hf 0 _ rfl
  have g1 : DataW.trod enc Try.prog W 0 (fun _ => true) true n' 3 ((cs.drop 1).take (Try.prog.cellsOf 3)) = xs[1]? := hf 1 _ rfl
  have g2 : DataW.trod enc Try.prog W 0 (fun _ => true) true n' 39 ((cs.drop 2).take (Try.prog.cellsOf 39)) = xs[2]? := hf 2 _ rfl
  have g3 : DataW.trod enc Try.prog W 0 (fun _ => true) true n' 3 ((cs.drop 6).take (Try.prog.cellsOf 3)) = xs[3]? := hf 3 _ rfl
  have g4 : DataW.trod enc Try.prog W 0 (fun _ => true) true n' 3 ((cs.drop 7).take (Try.prog.cellsOf 3)) = xs[4]? := hf 4 _ rfl
  have g5 : DataW.trod enc Try.prog W 0 (fun _ => true) true n' 3 ((cs.drop 8).take (Try.prog.cellsOf 3)) = xs[5]? := hf 5 _ rfl
  have g6 : DataW.trod enc Try.prog W 0 (fun _ => true) true n' 3 ((cs.drop 9).take (Try.prog.cellsOf 3)) = xs[6]? := hf 6 _ rfl
  rw [cells_int, field_one 0 (by omega), List.getElem?_eq_getElem (by omega)] at g0
  rw [cells_int, field_one 1 (by omega), List.getElem?_eq_getElem (by omega)] at g1
  rw [cells_reg, List.getElem?_eq_getElem (by omega)] at g2
  rw [cells_int, field_one 6 (by omega), List.getElem?_eq_getElem (by omega)] at g3
  rw [cells_int, field_one 7 (by omega), List.getElem?_eq_getElem (by omega)] at g4
  rw [cells_int, field_one 8 (by omega), List.getElem?_eq_getElem (by omega)] at g5
  rw [cells_int, field_one 9 (by omega), List.getElem?_eq_getElem (by omega)] at g6
  obtain ⟨a0, e0, _, u0⟩ := DataW.trod_int Try.underlying3 g0
  obtain ⟨a1, e1, _, u1⟩ := DataW.trod_int Try.underlying3 g1
  obtain ⟨a2, e2, u2⟩ := reg_cells g2
  obtain ⟨a3, e3, _, u3⟩ := DataW.trod_int Try.underlying3 g3
  obtain ⟨a4, e4, _, u4⟩ := DataW.trod_int Try.underlying3 g4
  obtain ⟨a5, e5, _, u5⟩ := DataW.trod_int Try.underlying3 g5
  obtain ⟨a6, e6, _, u6⟩ := DataW.trod_int Try.underlying3 g6
  simp only [List.cons.injEq, and_true] at e0 e1 e3 e4 e5 e6
  refine ⟨⟨a0, a1, a2, a3, a4, a5, a6⟩, ?_, bounds_i64 u0, bounds_i64 u1, u2, bounds_i64 u3, bounds_i64 u4, bounds_i64 u5, bounds_i64 u6⟩
  match cs, hl with
  | [c0, c1, c2, c3, c4, c5, c6, c7, c8, c9], _ =>
    simp only [List.getElem_cons_zero, List.getElem_cons_succ] at e0 e1 e3 e4 e5 e6
    simp only [List.drop_succ_cons, List.drop_zero, List.take_succ_cons, List.take_zero] at e2
    simp only [List.cons.injEq, and_true] at e2
    obtain ⟨q0, q1, q2, q3⟩ := e2
    rw [e0, e1, q0, q1, q2, q3, e3, e4, e5, e6]
    rfl

set_option maxRecDepth 100000 in
theorem act_open {H : Type} {enc : TypeId × Value → H} {W : World} {r : Reach} {b0 : Nat} {x : Value} {d : DataW H} {ps : List MemPlace} (hv : Value.okWide Try.prog W r b0 41 x) (h : DataW.Trod enc Try.prog W 0 (fun _ => true) true 41 x d ps) :
    ∃ a : Ac, x = acV a ∧ OkA a := by
  obtain ⟨cs, rfl, _⟩ := okWide_struct Try.underlying41 hv
  obtain ⟨fuel, hf⟩ := h
  obtain ⟨a, e, hb⟩ := act_cells hf
  refine ⟨a, ?_, hb⟩
  have e' : cs.toList = (acC a).toList := by simpa [Value.cells] using e
  rw [show cs = cs.toList.toArray by simp, e']

/-- Acts that came in. -/
def Acs (w : World) (a0 : Option Addr) (len : Nat) (A : Nat → Ac) : Prop := ∀ k, k < len → ∃ b o, a0 = some ⟨b, o, none⟩ ∧ (∀ j, j < 10 → w.cell? ⟨b, o + k * 10 + j, none⟩ = (acC (A k))[j]?) ∧ OkA (A k)

theorem Acs.keep {w w' : World} {a0 : Option Addr} {len : Nat} {A : Nat → Ac} (h : Acs w a0 len A) (f : Fr none' w w') : Acs w' a0 len A := fun k hk => by
  obtain ⟨b, o, e, hc, ok⟩ := h k hk
  refine ⟨b, o, e, fun j hj => ?_, ok⟩
  have hj5 : j < (acC (A k)).size := hj
  have := hc j hj
  rw [Array.getElem?_eq_getElem hj5] at this ⊢
  exact cell_keep f this (fun h => h)

def ac0 : Ac := ⟨0, 0, R0, 0, 0, 0, 0⟩
theorem acs_of {W : World} {a0 : Option Addr} {len : Nat} (h : ∀ k, k < len → ∃ b o a, a0 = some ⟨b, o, none⟩ ∧ (∀ j, j < 10 → W.cell? ⟨b, o + k * 10 + j, none⟩ = (acC a)[j]?) ∧ OkA a) : ∃ A, Acs W a0 len A := by
  have h' : ∀ k, ∃ a, k < len → ∃ b o, a0 = some ⟨b, o, none⟩ ∧ (∀ j, j < 10 → W.cell? ⟨b, o + k * 10 + j, none⟩ = (acC a)[j]?) ∧ OkA a := fun k => by
    by_cases hk : k < len
    · obtain ⟨b, o, a, e, hq⟩ := h k hk
      exact ⟨a, fun _ => ⟨b, o, e, hq⟩⟩
    · exact ⟨ac0, fun hh => absurd hh hk⟩
  exact ⟨fun k => Classical.choose (h' k), fun k hk => Classical.choose_spec (h' k) hk⟩

set_option maxRecDepth 100000 in
theorem acts_open {H : Type} {enc : TypeId × Value → H} {W : World} {fuel : Nat} {a0 : Option Addr} {len cap : Nat} {y : DataW H × List MemPlace} (hf : DataW.trod enc Try.prog W 0 (fun _ => true) true fuel 22 [.slice a0 len cap] = some y) :
    len ≤ 9223372036854775807 ∧ ∃ A, Acs W a0 len A := by
  rcases open_slice Try.underlying22 hf with ⟨hcs, _⟩ | ⟨a, l, c, m, n, D, Pl, hcs, _, hl, hm, hmm, hx, hel⟩
  · simp only [List.cons.injEq, Value.slice.injEq, and_true] at hcs
    obtain ⟨rfl, rfl, rfl⟩ := hcs
    exact ⟨by omega, fun _ => ac0, fun k hk => by omega⟩
  · simp only [List.cons.injEq, Value.slice.injEq, and_true] at hcs
    obtain ⟨rfl, rfl, rfl⟩ := hcs
    have hmm' : m = cap := by simpa using hmm
    subst hmm'
    refine ⟨by simp only [maxLen] at hm; omega, acs_of fun k hk => ?_⟩
    rw [cells_act] at hel
    obtain ⟨b, o, spot⟩ := a
    have hspot : spot = none := by
      obtain ⟨cs', h1, _⟩ := hel 0 (by omega)
      obtain ⟨_, hlen, hc⟩ := World.cells?_some h1
      have := hc 0 (by omega)
      rw [List.getElem?_eq_getElem (by omega)] at this
      simpa [Addr.add] using World.cell?_spot this
    subst hspot
    obtain ⟨cs', h1, h2⟩ := hel k (by omega)
    obtain ⟨_, hlen, hc⟩ := World.cells?_some h1
    obtain ⟨q, e, hb⟩ := act_cells h2
    have hcell : ∀ j, j < 10 → W.cell? ⟨b, o + k * 10 + j, none⟩ = cs'[j]? := fun j hj => by have := hc j hj; rwa [add_lit', add_lit'] at this
    rw [e] at hcell
    exact ⟨b, o, q, rfl, fun j hj => by rw [hcell j hj]; simp, hb⟩

end Go.Proofs.Ytcmhndkbcfpbbaa
