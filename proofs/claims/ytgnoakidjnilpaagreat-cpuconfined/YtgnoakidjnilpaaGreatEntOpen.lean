/-
  An entry that came in, opened: from the form's own reading to its four parts. No statement is proved here.
-/
import Derived.Test.YtgnoakidjnilpaaGreatRows
import Derived.Test.YtgnoakidjnilpaaGreatBase
import Derived.Deep.Fields
import Derived.SizedLaws
import Derived.OpenShut
import Derived.ShutString
import Derived.ChangeOld
namespace Go.Proofs.YtgnoakidjnilpaaGreat
open Go.ChangeShapes Go.WideShapes Go.ChangeAt Go.RowKit Go.Deep

theorem own_knob : ownKnob Tryz.prog.godebug = none := by kernel_rfl
theorem laid_out : laidOutB Tryz.prog = true := by kernel_rfl
theorem cells_ent : Tryz.prog.cellsOf 71 = 4 := by kernel_rfl
theorem cells_int : Tryz.prog.cellsOf 3 = 1 := by kernel_rfl
theorem cells_bool : Tryz.prog.cellsOf 4 = 1 := by kernel_rfl

theorem field_one {cs : List Value} (i : Nat) (hi : i < cs.length) : (cs.drop i).take 1 = [cs[i]] := by
  rw [List.drop_eq_getElem_cons (by omega), List.take_succ_cons, List.take_zero]

set_option maxRecDepth 100000 in
/-- The cells of an entry. -/
theorem ent_cells {H : Type} {enc : TypeId × Value → H} {W : World} {n : Nat} {cs : List Value} {x : DataW H × List MemPlace} (h : DataW.trod enc Tryz.prog W 0 (fun _ => true) true n 71 cs = some x) :
    ∃ (v l : Bool) (r f : Int), cs = [.bool v, .bool l, .int .i64 r, .int .i64 f] := by
  obtain ⟨xs, n', _, _, hl, hxl, hf⟩ := DataW.trod_struct Tryz.underlying71 h
  rw [cells_ent] at hl
  have hxl' : xs.length = 4 := hxl
  have g0 : DataW.trod enc Tryz.prog W 0 (fun _ => true) true n' 4 ((cs.drop 0).take (Tryz.prog.cellsOf 4)) = xs[0]? := hf 0 _ rfl
  have g1 : DataW.trod enc Tryz.prog W 0 (fun _ => true) true n' 4 ((cs.drop 1).take (Tryz.prog.cellsOf 4)) = xs[1]? := hf 1 _ rfl
  have g2 : DataW.trod enc Tryz.prog W 0 (fun _ => true) true n' 3 ((cs.drop 2).take (Tryz.prog.cellsOf 3)) = xs[2]? := hf 2 _ rfl
  have g3 : DataW.trod enc Tryz.prog W 0 (fun _ => true) true n' 3 ((cs.drop 3).take (Tryz.prog.cellsOf 3)) = xs[3]? := hf 3 _ rfl
  rw [cells_bool, field_one 0 (by omega), List.getElem?_eq_getElem (by omega)] at g0
  rw [cells_bool, field_one 1 (by omega), List.getElem?_eq_getElem (by omega)] at g1
  rw [cells_int, field_one 2 (by omega), List.getElem?_eq_getElem (by omega)] at g2
  rw [cells_int, field_one 3 (by omega), List.getElem?_eq_getElem (by omega)] at g3
  obtain ⟨v, e0, _⟩ := DataW.trod_bool Tryz.underlying4 g0
  obtain ⟨l, e1, _⟩ := DataW.trod_bool Tryz.underlying4 g1
  obtain ⟨r, e2, _, _⟩ := DataW.trod_int Tryz.underlying3 g2
  obtain ⟨f, e3, _, _⟩ := DataW.trod_int Tryz.underlying3 g3
  simp only [List.cons.injEq, and_true] at e0 e1 e2 e3
  refine ⟨v, l, r, f, ?_⟩
  match cs, hl with
  | [a, b, c, d], _ =>
    simp only [List.getElem_cons_zero, List.getElem_cons_succ] at e0 e1 e2 e3
    rw [e0, e1, e2, e3]

set_option maxRecDepth 100000 in
theorem ent_open {H : Type} {enc : TypeId × Value → H} {W : World} {r : Reach} {b0 : Nat} {x : Value} {d : DataW H} {ps : List MemPlace} (hv : Value.okWide Tryz.prog W r b0 71 x) (h : DataW.Trod enc Tryz.prog W 0 (fun _ => true) true 71 x d ps) :
    ∃ (v l : Bool) (r f : Int), x = .agg #[.bool v, .bool l, .int .i64 r, .int .i64 f] := by
  obtain ⟨cs, rfl, _⟩ := okWide_struct Tryz.underlying71 hv
  obtain ⟨fuel, hf⟩ := h
  obtain ⟨v, l, r, f, e⟩ := ent_cells hf
  refine ⟨v, l, r, f, ?_⟩
  have e' : cs.toList = [.bool v, .bool l, .int .i64 r, .int .i64 f] := by simpa [Value.cells] using e
  rw [show cs = cs.toList.toArray by simp, e']

end Go.Proofs.YtgnoakidjnilpaaGreat
