/-
  A cap that came in, opened: from the form's own reading to its seven numbers and its flag. No statement is proved here.
-/
import Derived.Test.YtibdkadojoeopaaRows
import Derived.Test.YtibdkadojoeopaaCapDefs
import Derived.Deep.Fields
import Derived.SizedLaws
import Derived.OpenShut
import Derived.ShutString
import Derived.ChangeOld
namespace Go.Proofs.Ytibdkadojoeopaa
open Go.ChangeShapes Go.WideShapes Go.ChangeAt Go.RowKit Go.Deep

theorem own_knob : ownKnob Try.prog.godebug = none := by kernel_rfl
theorem laid_out : laidOutB Try.prog = true := by kernel_rfl
theorem cells_cap : Try.prog.cellsOf 34 = 8 := by kernel_rfl
theorem cells_int : Try.prog.cellsOf 3 = 1 := by kernel_rfl
theorem cells_bool : Try.prog.cellsOf 4 = 1 := by kernel_rfl

theorem field_one {cs : List Value} (i : Nat) (hi : i < cs.length) : (cs.drop i).take 1 = [cs[i]] := by
  rw [List.drop_eq_getElem_cons (by omega), List.take_succ_cons, List.take_zero]

set_option maxRecDepth 100000 in
theorem cap_open {H : Type} {enc : TypeId × Value → H} {W : World} {r : Reach} {b0 : Nat} {x : Value} {d : DataW H} {ps : List MemPlace} (hv : Value.okWide Try.prog W r b0 34 x) (h : DataW.Trod enc Try.prog W 0 (fun _ => true) true 34 x d ps) :
    ∃ (v0 v1 v2 v3 v4 v5 v6 : Int) (v7 : Bool), x = .agg #[.int .i64 v0, .int .i64 v1, .int .i64 v2, .int .i64 v3, .int .i64 v4, .int .i64 v5, .int .i64 v6, .bool v7] ∧ I64 v2 := by
  obtain ⟨csa, rfl, _⟩ := okWide_struct Try.underlying34 hv
  obtain ⟨fuel, hf0⟩ := h
  have hf1 : DataW.trod enc Try.prog W 0 (fun _ => true) true fuel 34 csa.toList = some (d, ps) := by simpa [Value.cells] using hf0
  generalize hcs : csa.toList = cs at hf1
  obtain ⟨xs, n', _, _, hl, hxl, hf⟩ := DataW.trod_struct Try.underlying34 hf1
  rw [cells_cap] at hl
  have hxl' : xs.length = 8 := hxl
  have g0 : DataW.trod enc Try.prog W 0 (fun _ => true) true n' 3 ((cs.drop 0).take (Try.prog.cellsOf 3)) = xs[0]? := hf 0 _ rfl
  have g1 : DataW.trod enc Try.prog W 0 (fun _ => true) true n' 3 ((cs.drop 1).take (Try.prog.cellsOf 3)) = xs[1]? := hf 1 _ rfl
  have g2 : DataW.trod enc Try.prog W 0 (fun _ => true) true n' 3 ((cs.drop 2).take (Try.prog.cellsOf 3)) = xs[2]? := hf 2 _ rfl
  have g3 : DataW.trod enc Try.prog W 0 (fun _ => true) true n' 3 ((cs.drop 3).take (Try.prog.cellsOf 3)) = xs[3]? := hf 3 _ rfl
  have g4 : DataW.trod enc Try.prog W 0 (fun _ => true) true n' 3 ((cs.drop 4).take (Try.prog.cellsOf 3)) = xs[4]? := hf 4 _ rfl
  have g5 : DataW.trod enc Try.prog W 0 (fun _ => true) true n' 3 ((cs.drop 5).take (Try.prog.cellsOf 3)) = xs[5]? := hf 5 _ rfl
  have g6 : DataW.trod enc Try.prog W 0 (fun _ => true) true n' 3 ((cs.drop 6).take (Try.prog.cellsOf 3)) = xs[6]? := hf 6 _ rfl
  have g7 : DataW.trod enc Try.prog W 0 (fun _ => true) true n' 4 ((cs.drop 7).take (Try.prog.cellsOf 4)) = xs[7]? := hf 7 _ rfl
  rw [cells_int, field_one 0 (by omega), List.getElem?_eq_getElem (by omega)] at g0
  rw [cells_int, field_one 1 (by omega), List.getElem?_eq_getElem (by omega)] at g1
  rw [cells_int, field_one 2 (by omega), List.getElem?_eq_getElem (by omega)] at g2
  rw [cells_int, field_one 3 (by omega), List.getElem?_eq_getElem (by omega)] at g3
  rw [cells_int, field_one 4 (by omega), List.getElem?_eq_getElem (by omega)] at g4
  rw [cells_int, field_one 5 (by omega), List.getElem?_eq_getElem (by omega)] at g5
  rw [cells_int, field_one 6 (by omega), List.getElem?_eq_getElem (by omega)] at g6
  rw [cells_bool, field_one 7 (by omega), List.getElem?_eq_getElem (by omega)] at g7
  obtain ⟨v0, e0, _, _⟩ := DataW.trod_int Try.underlying3 g0
  obtain ⟨v1, e1, _, _⟩ := DataW.trod_int Try.underlying3 g1
  obtain ⟨v2, e2, _, u2⟩ := DataW.trod_int Try.underlying3 g2
  obtain ⟨v3, e3, _, _⟩ := DataW.trod_int Try.underlying3 g3
  obtain ⟨v4, e4, _, _⟩ := DataW.trod_int Try.underlying3 g4
  obtain ⟨v5, e5, _, _⟩ := DataW.trod_int Try.underlying3 g5
  obtain ⟨v6, e6, _, _⟩ := DataW.trod_int Try.underlying3 g6
  obtain ⟨v7, e7, _⟩ := DataW.trod_bool Try.underlying4 g7
  simp only [List.cons.injEq, and_true] at e0 e1 e2 e3 e4 e5 e6 e7
  refine ⟨v0, v1, v2, v3, v4, v5, v6, v7, ?_, bounds_i64 u2⟩
  have e' : cs = [.int .i64 v0, .int .i64 v1, .int .i64 v2, .int .i64 v3, .int .i64 v4, .int .i64 v5, .int .i64 v6, .bool v7] := by
    match cs, hl with
    | [a0, a1, a2, a3, a4, a5, a6, a7], _ =>
      simp only [List.getElem_cons_zero, List.getElem_cons_succ] at e0 e1 e2 e3 e4 e5 e6 e7
      rw [e0, e1, e2, e3, e4, e5, e6, e7]
  rw [show csa = csa.toList.toArray by simp, hcs, e']

theorem nat_u64 {x : Int} (h : (Lit.int .u64 x).wf = true) : ∃ n : Nat, x = (n : Int) ∧ n < 18446744073709551616 := by
  have := bounds_u64 h
  exact ⟨x.toNat, by omega, by omega⟩

end Go.Proofs.Ytibdkadojoeopaa
