/-
  What came in, opened from the form's own reading: entries to be laid, acts, numbers, flags. No statement is proved here.
-/
import Derived.Test.YthmombgogmgobaaIoBoth
import Derived.Test.YthmombgogmgobaaEntOpen
namespace Go.Proofs.Ythmombgogmgobaa
open Go.ChangeShapes Go.WideShapes Go.ChangeAt Go.RowKit Go.Deep

theorem cells_pq : Try.prog.cellsOf 31 = 6 := by kernel_rfl
theorem cells_aq : Try.prog.cellsOf 33 = 11 := by kernel_rfl
theorem cells_u8 : Try.prog.cellsOf 5 = 1 := by kernel_rfl

set_option maxRecDepth 100000 in
theorem pq_cells {H : Type} {enc : TypeId × Value → H} {W : World} {n : Nat} {cs : List Value} {y : DataW H × List MemPlace} (h : DataW.trod enc Try.prog W 0 (fun _ => true) true n 31 cs = some y) :
    ∃ q : Pq, cs = [.int .i64 q.t, .int .i64 q.i, .bool q.v, .bool q.l, .int .i64 q.r, .int .i64 q.f] := by
  obtain ⟨xs, n', _, _, hl, hxl, hf⟩ := DataW.trod_struct Try.underlying31 h
  rw [cells_pq] at hl
  have hxl' : xs.length = 3 := hxl
  have g0 : DataW.trod enc Try.prog W 0 (fun _ => true) true n' 3 ((cs.drop 0).take (Try.prog.cellsOf 3)) = xs[0]? := hf 0 _ rfl
  have g1 : DataW.trod enc Try.prog W 0 (fun _ => true) true n' 3 ((cs.drop 1).take (Try.prog.cellsOf 3)) = xs[1]? := hf 1 _ rfl
  have g2 : DataW.trod enc Try.prog W 0 (fun _ => true) true n' 29 ((cs.drop 2).take (Try.prog.cellsOf 29)) = xs[2]? := hf 2 _ rfl
  rw [cells_int, field_one 0 (by omega), List.getElem?_eq_getElem (by omega)] at g0
  rw [cells_int, field_one 1 (by omega), List.getElem?_eq_getElem (by omega)] at g1
  rw [cells_ent, List.getElem?_eq_getElem (by omega)] at g2
  obtain ⟨t, e0, _, _⟩ := DataW.trod_int Try.underlying3 g0
  obtain ⟨i, e1, _, _⟩ := DataW.trod_int Try.underlying3 g1
  obtain ⟨v, l, r, f, e2⟩ := ent_cells g2
  simp only [List.cons.injEq, and_true] at e0 e1
  refine ⟨⟨t, i, v, l, r, f⟩, ?_⟩
  match cs, hl with
  | [c0, c1, c2, c3, c4, c5], _ =>
    simp only [List.getElem_cons_zero, List.getElem_cons_succ] at e0 e1
    simp only [List.drop_succ_cons, List.drop_zero, List.take_succ_cons, List.take_zero] at e2
    rw [e0, e1, e2]

set_option maxRecDepth 100000 in
theorem aq_cells {H : Type} {enc : TypeId × Value → H} {W : World} {n : Nat} {cs : List Value} {y : DataW H × List MemPlace} (h : DataW.trod enc Try.prog W 0 (fun _ => true) true n 33 cs = some y) :
    ∃ a : Aq, cs = [.int .i64 a.d, .int .i64 a.s, .int .i64 a.n, .bool a.wr, .int .u8 (a.b : Int), .int .i64 a.q.t, .int .i64 a.q.i, .bool a.q.v, .bool a.q.l, .int .i64 a.q.r, .int .i64 a.q.f] ∧ a.b < 256 := by
  obtain ⟨xs, n', _, _, hl, hxl, hf⟩ := DataW.trod_struct Try.underlying33 h
  rw [cells_aq] at hl
  have hxl' : xs.length = 6 := hxl
  have g0 : DataW.trod enc Try.prog W 0 (fun _ => true) true n' 3 ((cs.drop 0).take (Try.prog.cellsOf 3)) = xs[0]? := hf 0 _ rfl
  have g1 : DataW.trod enc Try.prog W 0 (fun _ => true) true n' 3 ((cs.drop 1).take (Try.prog.cellsOf 3)) = xs[1]? := hf 1 _ rfl
  have g2 : DataW.trod enc Try.prog W 0 (fun _ => true) true n' 3 ((cs.drop 2).take (Try.prog.cellsOf 3)) = xs[2]? := hf 2 _ rfl
  have g3 : DataW.trod enc Try.prog W 0 (fun _ => true) true n' 4 ((cs.drop 3).take (Try.prog.cellsOf 4)) = xs[3]? := hf 3 _ rfl
  have g4 : DataW.trod enc Try.prog W 0 (fun _ => true) true n' 5 ((cs.drop 4).take (Try.prog.cellsOf 5)) = xs[4]? := hf 4 _ rfl
  have g5 : DataW.trod enc Try.prog W 0 (fun _ => true) true n' 31 ((cs.drop 5).take (Try.prog.cellsOf 31)) = xs[5]? := hf 5 _ rfl
  rw [cells_int, field_one 0 (by omega), List.getElem?_eq_getElem (by omega)] at g0
  rw [cells_int, field_one 1 (by omega), List.getElem?_eq_getElem (by omega)] at g1
  rw [cells_int, field_one 2 (by omega), List.getElem?_eq_getElem (by omega)] at g2
  rw [cells_bool, field_one 3 (by omega), List.getElem?_eq_getElem (by omega)] at g3
  rw [cells_u8, field_one 4 (by omega), List.getElem?_eq_getElem (by omega)] at g4
  rw [cells_pq, List.getElem?_eq_getElem (by omega)] at g5
  obtain ⟨d, e0, _, _⟩ := DataW.trod_int Try.underlying3 g0
  obtain ⟨s, e1, _, _⟩ := DataW.trod_int Try.underlying3 g1
  obtain ⟨m, e2, _, _⟩ := DataW.trod_int Try.underlying3 g2
  obtain ⟨wr, e3, _⟩ := DataW.trod_bool Try.underlying4 g3
  obtain ⟨x, e4, _, wx⟩ := DataW.trod_int Try.underlying5 g4
  obtain ⟨q, e5⟩ := pq_cells g5
  have hx := bounds_u8 wx
  obtain ⟨x, rfl⟩ := Int.eq_ofNat_of_zero_le hx.1
  simp only [List.cons.injEq, and_true] at e0 e1 e2 e3 e4
  refine ⟨⟨d, s, m, wr, x, q⟩, ?_, show x < 256 by omega⟩
  match cs, hl with
  | [c0, c1, c2, c3, c4, c5, c6, c7, c8, c9, c10], _ =>
    simp only [List.getElem_cons_zero, List.getElem_cons_succ] at e0 e1 e2 e3 e4
    simp only [List.drop_succ_cons, List.drop_zero, List.take_succ_cons, List.take_zero] at e5
    rw [e0, e1, e2, e3, e4, e5]

set_option maxRecDepth 100000 in
/-- An act handed in by itself. -/
theorem aq_open {H : Type} {enc : TypeId × Value → H} {W : World} {r : Reach} {b0 : Nat} {x : Value} {d : DataW H} {ps : List MemPlace} (hv : Value.okWide Try.prog W r b0 33 x) (h : DataW.Trod enc Try.prog W 0 (fun _ => true) true 33 x d ps) :
    ∃ a : Aq, x = .agg #[.int .i64 a.d, .int .i64 a.s, .int .i64 a.n, .bool a.wr, .int .u8 (a.b : Int), .int .i64 a.q.t, .int .i64 a.q.i, .bool a.q.v, .bool a.q.l, .int .i64 a.q.r, .int .i64 a.q.f] ∧ a.b < 256 := by
  obtain ⟨cs, rfl, _⟩ := okWide_struct Try.underlying33 hv
  obtain ⟨fuel, hf⟩ := h
  obtain ⟨a, e, hb⟩ := aq_cells hf
  refine ⟨a, ?_, hb⟩
  have e' : cs.toList = [.int .i64 a.d, .int .i64 a.s, .int .i64 a.n, .bool a.wr, .int .u8 (a.b : Int), .int .i64 a.q.t, .int .i64 a.q.i, .bool a.q.v, .bool a.q.l, .int .i64 a.q.r, .int .i64 a.q.f] := by simpa [Value.cells] using e
  rw [show cs = cs.toList.toArray by simp, e']

theorem pqs_of {W : World} {a0 : Option Addr} {len : Nat} (h : ∀ k, k < len → ∃ b o q, a0 = some ⟨b, o, none⟩ ∧ PqIs W b (o + k * 6) q) : ∃ P, Pqs W a0 len P := by
  have h' : ∀ k, ∃ q, k < len → ∃ b o, a0 = some ⟨b, o, none⟩ ∧ PqIs W b (o + k * 6) q := fun k => by
    by_cases hk : k < len
    · obtain ⟨b, o, q, e, hq⟩ := h k hk
      exact ⟨q, fun _ => ⟨b, o, e, hq⟩⟩
    · exact ⟨⟨0, 0, false, false, 0, 0⟩, fun hh => absurd hh hk⟩
  exact ⟨fun k => Classical.choose (h' k), fun k hk => Classical.choose_spec (h' k) hk⟩
theorem aqs_of {W : World} {a0 : Option Addr} {len : Nat} (h : ∀ k, k < len → ∃ b o q, a0 = some ⟨b, o, none⟩ ∧ AqIs W b (o + k * 11) q) : ∃ P, Aqs W a0 len P := by
  have h' : ∀ k, ∃ q, k < len → ∃ b o, a0 = some ⟨b, o, none⟩ ∧ AqIs W b (o + k * 11) q := fun k => by
    by_cases hk : k < len
    · obtain ⟨b, o, q, e, hq⟩ := h k hk
      exact ⟨q, fun _ => ⟨b, o, e, hq⟩⟩
    · exact ⟨⟨0, 0, 0, false, 0, ⟨0, 0, false, false, 0, 0⟩⟩, fun hh => absurd hh hk⟩
  exact ⟨fun k => Classical.choose (h' k), fun k hk => Classical.choose_spec (h' k) hk⟩

set_option maxRecDepth 100000 in
theorem puts_open {H : Type} {enc : TypeId × Value → H} {W : World} {fuel : Nat} {a0 : Option Addr} {len cap : Nat} {y : DataW H × List MemPlace} (hf : DataW.trod enc Try.prog W 0 (fun _ => true) true fuel 22 [.slice a0 len cap] = some y) :
    len ≤ 9223372036854775807 ∧ ∃ P, Pqs W a0 len P := by
  rcases open_slice Try.underlying22 hf with ⟨hcs, _⟩ | ⟨a, l, c, m, n, D, Pl, hcs, _, hl, hm, hmm, hx, hel⟩
  · simp only [List.cons.injEq, Value.slice.injEq, and_true] at hcs
    obtain ⟨rfl, rfl, rfl⟩ := hcs
    exact ⟨by omega, fun _ => ⟨0, 0, false, false, 0, 0⟩, fun k hk => by omega⟩
  · simp only [List.cons.injEq, Value.slice.injEq, and_true] at hcs
    obtain ⟨rfl, rfl, rfl⟩ := hcs
    have hmm' : m = cap := by simpa using hmm
    subst hmm'
    refine ⟨by simp only [maxLen] at hm; omega, pqs_of fun k hk => ?_⟩
    rw [cells_pq] at hel
    obtain ⟨b, o, spot⟩ := a
    have hspot : spot = none := by
      obtain ⟨cs', h1, _⟩ := hel 0 (by omega)
      obtain ⟨_, hlen, hc⟩ := World.cells?_some h1
      have := hc 0 (by omega)
      rw [List.getElem?_eq_getElem (by omega)] at this
      simpa [Addr.add] using World.cell?_spot this
    subst hspot
    obtain ⟨cs', h1, h2⟩ := hel k (by omega)
    obtain ⟨_, hlen, hc⟩ := World.cells?_some h1
    obtain ⟨q, e⟩ := pq_cells h2
    have hcell : ∀ j, j < 6 → W.cell? ⟨b, o + k * 6 + j, none⟩ = cs'[j]? := fun j hj => by have := hc j hj; rwa [add_lit', add_lit'] at this
    rw [e] at hcell
    exact ⟨b, o, q, rfl, hcell 0 (by omega), hcell 1 (by omega), hcell 2 (by omega), hcell 3 (by omega), hcell 4 (by omega), hcell 5 (by omega)⟩

set_option maxRecDepth 100000 in
theorem acts_open {H : Type} {enc : TypeId × Value → H} {W : World} {fuel : Nat} {a0 : Option Addr} {len cap : Nat} {y : DataW H × List MemPlace} (hf : DataW.trod enc Try.prog W 0 (fun _ => true) true fuel 23 [.slice a0 len cap] = some y) :
    len ≤ 9223372036854775807 ∧ ∃ P, Aqs W a0 len P := by
  rcases open_slice Try.underlying23 hf with ⟨hcs, _⟩ | ⟨a, l, c, m, n, D, Pl, hcs, _, hl, hm, hmm, hx, hel⟩
  · simp only [List.cons.injEq, Value.slice.injEq, and_true] at hcs
    obtain ⟨rfl, rfl, rfl⟩ := hcs
    exact ⟨by omega, fun _ => ⟨0, 0, 0, false, 0, ⟨0, 0, false, false, 0, 0⟩⟩, fun k hk => by omega⟩
  · simp only [List.cons.injEq, Value.slice.injEq, and_true] at hcs
    obtain ⟨rfl, rfl, rfl⟩ := hcs
    have hmm' : m = cap := by simpa using hmm
    subst hmm'
    refine ⟨by simp only [maxLen] at hm; omega, aqs_of fun k hk => ?_⟩
    rw [cells_aq] at hel
    obtain ⟨b, o, spot⟩ := a
    have hspot : spot = none := by
      obtain ⟨cs', h1, _⟩ := hel 0 (by omega)
      obtain ⟨_, hlen, hc⟩ := World.cells?_some h1
      have := hc 0 (by omega)
      rw [List.getElem?_eq_getElem (by omega)] at this
      simpa [Addr.add] using World.cell?_spot this
    subst hspot
    obtain ⟨cs', h1, h2⟩ := hel k (by omega)
    obtain ⟨_, hlen, hc⟩ := World.cells?_some h1
    obtain ⟨q, e, hb⟩ := aq_cells h2
    have hcell : ∀ j, j < 11 → W.cell? ⟨b, o + k * 11 + j, none⟩ = cs'[j]? := fun j hj => by have := hc j hj; rwa [add_lit', add_lit'] at this
    rw [e] at hcell
    exact ⟨b, o, q, rfl, hcell 0 (by omega), hcell 1 (by omega), hcell 2 (by omega), hcell 3 (by omega), hcell 4 (by omega), ⟨hcell 5 (by omega), hcell 6 (by omega), hcell 7 (by omega), hcell 8 (by omega), hcell 9 (by omega), hcell 10 (by omega)⟩, hb⟩

end Go.Proofs.Ythmombgogmgobaa
