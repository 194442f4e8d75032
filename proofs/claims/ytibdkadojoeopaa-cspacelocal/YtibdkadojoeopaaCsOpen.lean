/-
  Acts and slots' names that came in, opened from the form's own reading. No statement is proved here.
-/
import Derived.Test.YtibdkadojoeopaaCsBoth
import Derived.Test.YtibdkadojoeopaaCapOpen
namespace Go.Proofs.Ytibdkadojoeopaa
open Go.ChangeShapes Go.WideShapes Go.ChangeAt Go.RowKit Go.Deep

theorem cells_ref : Try.prog.cellsOf 32 = 2 := by kernel_rfl
theorem cells_act : Try.prog.cellsOf 37 = 15 := by kernel_rfl
theorem cells_u32 : Try.prog.cellsOf 35 = 1 := by kernel_rfl

theorem nat_u32 {x : Int} (h : (Lit.int .u32 x).wf = true) : ∃ n : Nat, x = (n : Int) ∧ n < 4294967296 := by
  have := bounds_u32 h
  exact ⟨x.toNat, by omega, by omega⟩

set_option maxRecDepth 100000 in
theorem ref_cells {H : Type} {enc : TypeId × Value → H} {W : World} {n : Nat} {cs : List Value} {y : DataW H × List MemPlace} (h : DataW.trod enc Try.prog W 0 (fun _ => true) true n 32 cs = some y) :
    ∃ a : Rf, cs = [.int .i64 a.n, .int .i64 a.i] ∧ I64 a.n := by
  obtain ⟨xs, n', _, _, hl, hxl, hf⟩ := DataW.trod_struct Try.underlying32 h
  rw [cells_ref] at hl
  have hxl' : xs.length = 2 := hxl
  have g0 : DataW.trod enc Try.prog W 0 (fun _ => true) true n' 3 ((cs.drop 0).take (Try.prog.cellsOf 3)) = xs[0]? := hf 0 _ rfl
  have g1 : DataW.trod enc Try.prog W 0 (fun _ => true) true n' 3 ((cs.drop 1).take (Try.prog.cellsOf 3)) = xs[1]? := hf 1 _ rfl
  rw [cells_int, field_one 0 (by omega), List.getElem?_eq_getElem (by omega)] at g0
  rw [cells_int, field_one 1 (by omega), List.getElem?_eq_getElem (by omega)] at g1
  obtain ⟨a, e0, _, u0⟩ := DataW.trod_int Try.underlying3 g0
  obtain ⟨i, e1, _, _⟩ := DataW.trod_int Try.underlying3 g1
  simp only [List.cons.injEq, and_true] at e0 e1
  refine ⟨⟨a, i⟩, ?_, bounds_i64 u0⟩
  match cs, hl with
  | [c0, c1], _ =>
    simp only [List.getElem_cons_zero, List.getElem_cons_succ] at e0 e1
    rw [e0, e1]

set_option maxRecDepth 100000 in
theorem ref_open {H : Type} {enc : TypeId × Value → H} {W : World} {r : Reach} {b0 : Nat} {x : Value} {d : DataW H} {ps : List MemPlace} (hv : Value.okWide Try.prog W r b0 32 x) (h : DataW.Trod enc Try.prog W 0 (fun _ => true) true 32 x d ps) :
    ∃ a : Rf, x = .agg #[.int .i64 a.n, .int .i64 a.i] ∧ I64 a.n := by
  obtain ⟨cs, rfl, _⟩ := okWide_struct Try.underlying32 hv
  obtain ⟨fuel, hf⟩ := h
  obtain ⟨a, e, hb⟩ := ref_cells hf
  refine ⟨a, ?_, hb⟩
  have e' : cs.toList = [.int .i64 a.n, .int .i64 a.i] := by simpa [Value.cells] using e
  rw [show cs = cs.toList.toArray by simp, e']

set_option maxRecDepth 100000 in
theorem cap_cells {H : Type} {enc : TypeId × Value → H} {W : World} {n : Nat} {cs : List Value} {y : DataW H × List MemPlace} (h : DataW.trod enc Try.prog W 0 (fun _ => true) true n 34 cs = some y) :
    ∃ c : K, cs = [.int .i64 c.k, .int .i64 c.o, .int .i64 c.r, .int .i64 c.b, .int .i64 c.x, .int .i64 c.g, .int .i64 c.n, .bool c.d] ∧ I64 c.r := by
  obtain ⟨xs, n', _, _, hl, hxl, hf⟩ := DataW.trod_struct Try.underlying34 h
  rw [cells_cap] at hl
  have hxl' : xs.length = 8 := hxl
  have g0 : DataW.trod enc Try.prog W 0 (fun _ => true) true n' 3 ((cs.drop 0).take (Try.prog.cellsOf 3)) = xs[0]? := hf 0 _ rfl
  have g1 : DataW.trod enc Try.prog W 0 (fun _ => true) true n' 3 ((cs.drop 1).take (Try.prog.cellsOf 3)) = xs[1]? := hf 1 _ rfl
  have g2 : DataW.trod enc Try.prog W 0 (fun _ => true) true n' 3 ((cs.drop 2).take (Try.prog.cellsOf 3)) = xs[2]? := hf 2 _ rfl
  have g3 : DataW.trod enc Try.prog W 0 (fun _ => true) true n' 3 ((cs.drop 3).take (Try.prog.cellsOf 3)) = xs[3]? := hf 3 _ rfl
  have g4 : DataW.trod enc Try.prog W 0 (fun _ => true) true n' 3 ((cs.drop 4).take (Try.prog.cellsOf 3)) = xs[4]? := hf 4 _ rfl
  have g5 : DataW.trod enc Try.prog W 0 (fun _ => true) true n' 3 ((cs.drop 5).take (Try.prog.cellsOf 3)) = xs[5]? := hf 5 _ rfl
  have g6 : DataW.trod enc Try.prog W 0 (fun _ => true) true n' 3 ((cs.drop 6).take (Try.prog.cellsOf 3)) = xs[6]? := hf 6 _ rfl
  have g7 : DataW.trod enc Try.prog W 0 (fun _ => true) true n' 4 ((cs.drop 7).take (Try.prog.cellsOf 4)) = xs[7]? := hf 7 _ rfl
  rw [cells_int, field_one 0 (by omega), List.getElem?_eq_getElem (by omega)] at g0
  rw [cells_int, field_one 1 (by omega), List.getElem?_eq_getElem (by omega)] at g1
  rw [cells_int, field_one 2 (by omega), List.getElem?_eq_getElem (by omega)] at g2
  rw [cells_int, field_one 3 (by omega), List.getElem?_eq_getElem (by omega)] at g3
  rw [cells_int, field_one 4 (by omega), List.getElem?_eq_getElem (by omega)] at g4
  rw [cells_int, field_one 5 (by omega), List.getElem?_eq_getElem (by omega)] at g5
  rw [cells_int, field_one 6 (by omega), List.getElem?_eq_getElem (by omega)] at g6
  rw [cells_bool, field_one 7 (by omega), List.getElem?_eq_getElem (by omega)] at g7
  obtain ⟨v0, e0, _, _⟩ := DataW.trod_int Try.underlying3 g0
  obtain ⟨v1, e1, _, _⟩ := DataW.trod_int Try.underlying3 g1
  obtain ⟨v2, e2, _, u2⟩ := DataW.trod_int Try.underlying3 g2
  obtain ⟨v3, e3, _, _⟩ := DataW.trod_int Try.underlying3 g3
  obtain ⟨v4, e4, _, _⟩ := DataW.trod_int Try.underlying3 g4
  obtain ⟨v5, e5, _, _⟩ := DataW.trod_int Try.underlying3 g5
  obtain ⟨v6, e6, _, _⟩ := DataW.trod_int Try.underlying3 g6
  obtain ⟨v7, e7, _⟩ := DataW.trod_bool Try.underlying4 g7
  simp only [List.cons.injEq, and_true] at e0 e1 e2 e3 e4 e5 e6 e7
  refine ⟨⟨v0, v1, v2, v3, v4, v5, v6, v7⟩, ?_, bounds_i64 u2⟩
  match cs, hl with
  | [a0, a1, a2, a3, a4, a5, a6, a7], _ =>
    simp only [List.getElem_cons_zero, List.getElem_cons_succ] at e0 e1 e2 e3 e4 e5 e6 e7
    rw [e0, e1, e2, e3, e4, e5, e6, e7]

set_option maxRecDepth 100000 in
theorem act_cells {H : Type} {enc : TypeId × Value → H} {W : World} {n : Nat} {cs : List Value} {y : DataW H × List MemPlace} (h : DataW.trod enc Try.prog W 0 (fun _ => true) true n 37 cs = some y) :
    ∃ a : Ac, cs = (acV a).toList ∧ OkA a := by
  obtain ⟨xs, n', _, _, hl, hxl, hf⟩ := DataW.trod_struct Try.underlying37 h
  rw [cells_act] at hl
  have hxl' : xs.length = 7 := hxl
  have g0 : DataW.trod enc Try.prog W 0 (fun _ => true) true n' 3 ((cs.drop 0).take (Try.prog.cellsOf 3)) = xs[0]? := hf 0 _ rfl
  have g1 : DataW.trod enc Try.prog W 0 (fun _ => true) true n' 3 ((cs.drop 1).take (Try.prog.cellsOf 3)) = xs[1]? := hf 1 _ rfl
  have g2 : DataW.trod enc Try.prog W 0 (fun _ => true) true n' 3 ((cs.drop 2).take (Try.prog.cellsOf 3)) = xs[2]? := hf 2 _ rfl
  have g3 : DataW.trod enc Try.prog W 0 (fun _ => true) true n' 32 ((cs.drop 3).take (Try.prog.cellsOf 32)) = xs[3]? := hf 3 _ rfl
  have g4 : DataW.trod enc Try.prog W 0 (fun _ => true) true n' 34 ((cs.drop 5).take (Try.prog.cellsOf 34)) = xs[4]? := hf 4 _ rfl
  have g5 : DataW.trod enc Try.prog W 0 (fun _ => true) true n' 35 ((cs.drop 13).take (Try.prog.cellsOf 35)) = xs[5]? := hf 5 _ rfl
  have g6 : DataW.trod enc Try.prog W 0 (fun _ => true) true n' 3 ((cs.drop 14).take (Try.prog.cellsOf 3)) = xs[6]? := hf 6 _ rfl
  rw [cells_int, field_one 0 (by omega), List.getElem?_eq_getElem (by omega)] at g0
  rw [cells_int, field_one 1 (by omega), List.getElem?_eq_getElem (by omega)] at g1
  rw [cells_int, field_one 2 (by omega), List.getElem?_eq_getElem (by omega)] at g2
  rw [cells_ref, List.getElem?_eq_getElem (by omega)] at g3
  rw [cells_cap, List.getElem?_eq_getElem (by omega)] at g4
  rw [cells_u32, field_one 13 (by omega), List.getElem?_eq_getElem (by omega)] at g5
  rw [cells_int, field_one 14 (by omega), List.getElem?_eq_getElem (by omega)] at g6
  obtain ⟨op, e0, _, _⟩ := DataW.trod_int Try.underlying3 g0
  obtain ⟨id, e1, _, u1⟩ := DataW.trod_int Try.underlying3 g1
  obtain ⟨rx, e2, _, _⟩ := DataW.trod_int Try.underlying3 g2
  obtain ⟨a, e3, u3⟩ := ref_cells g3
  obtain ⟨c, e4, u4⟩ := cap_cells g4
  obtain ⟨x, e5, _, u5⟩ := DataW.trod_int Try.underlying35 g5
  obtain ⟨dp, e6, _, _⟩ := DataW.trod_int Try.underlying3 g6
  obtain ⟨X, rfl, hX⟩ := nat_u32 u5
  simp only [List.cons.injEq, and_true] at e0 e1 e2 e5 e6
  refine ⟨⟨op, id, rx, a, c, X, dp⟩, ?_, bounds_i64 u1, u3, u4, hX⟩
  match cs, hl with
  | [c0, c1, c2, c3, c4, c5, c6, c7, c8, c9, c10, c11, c12, c13, c14], _ =>
    simp only [List.getElem_cons_zero, List.getElem_cons_succ] at e0 e1 e2 e5 e6
    simp only [List.drop_succ_cons, List.drop_zero, List.take_succ_cons, List.take_zero] at e3 e4
    simp only [List.cons.injEq, and_true] at e3 e4
    obtain ⟨q0, q1⟩ := e3
    obtain ⟨p0, p1, p2, p3, p4, p5, p6, p7⟩ := e4
    rw [e0, e1, e2, e5, e6, q0, q1, p0, p1, p2, p3, p4, p5, p6, p7]
    rfl

/-- Acts that came in. -/
def Acs (w : World) (a0 : Option Addr) (len : Nat) (A : Nat → Ac) : Prop := ∀ k, k < len → ∃ b o, a0 = some ⟨b, o, none⟩ ∧ (∀ j, j < 15 → w.cell? ⟨b, o + k * 15 + j, none⟩ = (acV (A k))[j]?) ∧ OkA (A k)

theorem Acs.keep {w w' : World} {a0 : Option Addr} {len : Nat} {A : Nat → Ac} (h : Acs w a0 len A) (f : Fr none' w w') : Acs w' a0 len A := fun k hk => by
  obtain ⟨b, o, e, hc, ok⟩ := h k hk
  refine ⟨b, o, e, fun j hj => ?_, ok⟩
  have hj15 : j < (acV (A k)).size := hj
  have := hc j hj
  rw [Array.getElem?_eq_getElem hj15] at this ⊢
  exact cell_keep f this (fun h => h)

theorem acs_of {W : World} {a0 : Option Addr} {len : Nat} (h : ∀ k, k < len → ∃ b o a, a0 = some ⟨b, o, none⟩ ∧ (∀ j, j < 15 → W.cell? ⟨b, o + k * 15 + j, none⟩ = (acV a)[j]?) ∧ OkA a) : ∃ A, Acs W a0 len A := by
  have h' : ∀ k, ∃ a, k < len → ∃ b o, a0 = some ⟨b, o, none⟩ ∧ (∀ j, j < 15 → W.cell? ⟨b, o + k * 15 + j, none⟩ = (acV a)[j]?) ∧ OkA a := fun k => by
    by_cases hk : k < len
    · obtain ⟨b, o, a, e, hq⟩ := h k hk
      exact ⟨a, fun _ => ⟨b, o, e, hq⟩⟩
    · exact ⟨⟨0, 0, 0, ⟨0, 0⟩, K0, 0, 0⟩, fun hh => absurd hh hk⟩
  exact ⟨fun k => Classical.choose (h' k), fun k hk => Classical.choose_spec (h' k) hk⟩

set_option maxRecDepth 100000 in
theorem acts_open {H : Type} {enc : TypeId × Value → H} {W : World} {fuel : Nat} {a0 : Option Addr} {len cap : Nat} {y : DataW H × List MemPlace} (hf : DataW.trod enc Try.prog W 0 (fun _ => true) true fuel 22 [.slice a0 len cap] = some y) :
    len ≤ 9223372036854775807 ∧ ∃ A, Acs W a0 len A := by
  rcases open_slice Try.underlying22 hf with ⟨hcs, _⟩ | ⟨a, l, c, m, n, D, Pl, hcs, _, hl, hm, hmm, hx, hel⟩
  · simp only [List.cons.injEq, Value.slice.injEq, and_true] at hcs
    obtain ⟨rfl, rfl, rfl⟩ := hcs
    exact ⟨by omega, fun _ => ⟨0, 0, 0, ⟨0, 0⟩, K0, 0, 0⟩, fun k hk => by omega⟩
  · simp only [List.cons.injEq, Value.slice.injEq, and_true] at hcs
    obtain ⟨rfl, rfl, rfl⟩ := hcs
    have hmm' : m = cap := by simpa using hmm
    subst hmm'
    refine ⟨by simp only [maxLen] at hm; omega, acs_of fun k hk => ?_⟩
    rw [cells_act] at hel
    obtain ⟨b, o, spot⟩ := a
    have hspot : spot = none := by
      obtain ⟨cs', h1, _⟩ := hel 0 (by omega)
      obtain ⟨_, hlen, hc⟩ := World.cells?_some h1
      have := hc 0 (by omega)
      rw [List.getElem?_eq_getElem (by omega)] at this
      simpa [Addr.add] using World.cell?_spot this
    subst hspot
    obtain ⟨cs', h1, h2⟩ := hel k (by omega)
    obtain ⟨_, hlen, hc⟩ := World.cells?_some h1
    obtain ⟨q, e, hb⟩ := act_cells h2
    have hcell : ∀ j, j < 15 → W.cell? ⟨b, o + k * 15 + j, none⟩ = cs'[j]? := fun j hj => by have := hc j hj; rwa [add_lit', add_lit'] at this
    rw [e] at hcell
    exact ⟨b, o, q, rfl, fun j hj => by rw [hcell j hj]; simp, hb⟩

end Go.Proofs.Ytibdkadojoeopaa
