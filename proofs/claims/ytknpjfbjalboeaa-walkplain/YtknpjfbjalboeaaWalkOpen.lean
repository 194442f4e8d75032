/-
  What came in, opened from the form's own reading: a space, a slice of entries to be laid, a slice of spaces, a slice of questions. No statement is proved here.
-/
import Derived.Test.YtknpjfbjalboeaaWalkLaid
import Derived.Test.YtknpjfbjalboeaaEntOpen
namespace Go.Proofs.Ytknpjfbjalboeaa
open Go.ChangeShapes Go.WideShapes Go.ChangeAt Go.RowKit Go.Deep

theorem cells_put : Try.prog.cellsOf 47 = 8 := by kernel_rfl
theorem cells_u16 : Try.prog.cellsOf 45 = 1 := by kernel_rfl
theorem cells_space : Try.prog.cellsOf 38 = 4 := by kernel_rfl

set_option maxRecDepth 100000 in
/-- The cells of a space. -/
theorem space_cells {H : Type} {enc : TypeId × Value → H} {W : World} {n : Nat} {cs : List Value} {x : DataW H × List MemPlace} (h : DataW.trod enc Try.prog W 0 (fun _ => true) true n 38 cs = some x) :
    ∃ (v a f s : Int), cs = [.int .i64 v, .int .i64 a, .int .i64 f, .int .i64 s] := by
  obtain ⟨xs, n', _, _, hl, hxl, hf⟩ := DataW.trod_struct Try.underlying38 h
  rw [cells_space] at hl
  have hxl' : xs.length = 4 := hxl
  have g0 : DataW.trod enc Try.prog W 0 (fun _ => true) true n' 3 ((cs.drop 0).take (Try.prog.cellsOf 3)) = xs[0]? := hf 0 _ rfl
  have g1 : DataW.trod enc Try.prog W 0 (fun _ => true) true n' 3 ((cs.drop 1).take (Try.prog.cellsOf 3)) = xs[1]? := hf 1 _ rfl
  have g2 : DataW.trod enc Try.prog W 0 (fun _ => true) true n' 3 ((cs.drop 2).take (Try.prog.cellsOf 3)) = xs[2]? := hf 2 _ rfl
  have g3 : DataW.trod enc Try.prog W 0 (fun _ => true) true n' 3 ((cs.drop 3).take (Try.prog.cellsOf 3)) = xs[3]? := hf 3 _ rfl
  rw [cells_int, field_one 0 (by omega), List.getElem?_eq_getElem (by omega)] at g0
  rw [cells_int, field_one 1 (by omega), List.getElem?_eq_getElem (by omega)] at g1
  rw [cells_int, field_one 2 (by omega), List.getElem?_eq_getElem (by omega)] at g2
  rw [cells_int, field_one 3 (by omega), List.getElem?_eq_getElem (by omega)] at g3
  obtain ⟨v, e0, _, _⟩ := DataW.trod_int Try.underlying3 g0
  obtain ⟨a, e1, _, _⟩ := DataW.trod_int Try.underlying3 g1
  obtain ⟨f, e2, _, _⟩ := DataW.trod_int Try.underlying3 g2
  obtain ⟨s, e3, _, _⟩ := DataW.trod_int Try.underlying3 g3
  simp only [List.cons.injEq, and_true] at e0 e1 e2 e3
  refine ⟨v, a, f, s, ?_⟩
  match cs, hl with
  | [a', b', c', d'], _ =>
    simp only [List.getElem_cons_zero, List.getElem_cons_succ] at e0 e1 e2 e3
    rw [e0, e1, e2, e3]

set_option maxRecDepth 100000 in
theorem space_open {H : Type} {enc : TypeId × Value → H} {W : World} {r : Reach} {b0 : Nat} {x : Value} {d : DataW H} {ps : List MemPlace} (hv : Value.okWide Try.prog W r b0 38 x) (h : DataW.Trod enc Try.prog W 0 (fun _ => true) true 38 x d ps) :
    ∃ (v a f s : Int), x = .agg #[.int .i64 v, .int .i64 a, .int .i64 f, .int .i64 s] := by
  obtain ⟨cs, rfl, _⟩ := okWide_struct Try.underlying38 hv
  obtain ⟨fuel, hf⟩ := h
  obtain ⟨v, a, f, s, e⟩ := space_cells hf
  refine ⟨v, a, f, s, ?_⟩
  have e' : cs.toList = [.int .i64 v, .int .i64 a, .int .i64 f, .int .i64 s] := by simpa [Value.cells] using e
  rw [show cs = cs.toList.toArray by simp, e']

set_option maxRecDepth 100000 in
/-- One entry to be laid, opened. -/
theorem put_open {H : Type} {enc : TypeId × Value → H} {W : World} {n : Nat} {cs : List Value} {y : DataW H × List MemPlace} (b o : Nat) (hcell : ∀ j, j < 8 → W.cell? ⟨b, o + j, none⟩ = cs[j]?) (hl : cs.length = 8)
    (h : DataW.trod enc Try.prog W 0 (fun _ => true) true n 47 cs = some y) : ∃ q, PutIs W b o q := by
  obtain ⟨xs, n', _, _, _, hxl, hf⟩ := DataW.trod_struct Try.underlying47 h
  have hxl' : xs.length = 5 := hxl
  have g0 : DataW.trod enc Try.prog W 0 (fun _ => true) true n' 3 ((cs.drop 0).take (Try.prog.cellsOf 3)) = xs[0]? := hf 0 _ rfl
  have g1 : DataW.trod enc Try.prog W 0 (fun _ => true) true n' 3 ((cs.drop 1).take (Try.prog.cellsOf 3)) = xs[1]? := hf 1 _ rfl
  have g2 : DataW.trod enc Try.prog W 0 (fun _ => true) true n' 44 ((cs.drop 2).take (Try.prog.cellsOf 44)) = xs[2]? := hf 2 _ rfl
  have g3 : DataW.trod enc Try.prog W 0 (fun _ => true) true n' 4 ((cs.drop 6).take (Try.prog.cellsOf 4)) = xs[3]? := hf 3 _ rfl
  have g4 : DataW.trod enc Try.prog W 0 (fun _ => true) true n' 45 ((cs.drop 7).take (Try.prog.cellsOf 45)) = xs[4]? := hf 4 _ rfl
  rw [cells_int, field_one 0 (by omega), List.getElem?_eq_getElem (by omega)] at g0
  rw [cells_int, field_one 1 (by omega), List.getElem?_eq_getElem (by omega)] at g1
  rw [cells_ent, List.getElem?_eq_getElem (by omega)] at g2
  rw [cells_bool, field_one 6 (by omega), List.getElem?_eq_getElem (by omega)] at g3
  rw [cells_u16, field_one 7 (by omega), List.getElem?_eq_getElem (by omega)] at g4
  obtain ⟨t, e0, _, _⟩ := DataW.trod_int Try.underlying3 g0
  obtain ⟨i, e1, _, _⟩ := DataW.trod_int Try.underlying3 g1
  obtain ⟨v, l, r, f, e2⟩ := ent_cells g2
  obtain ⟨raw, e6, _⟩ := DataW.trod_bool Try.underlying4 g3
  obtain ⟨x, e7, _, wx⟩ := DataW.trod_int Try.underlying45 g4
  simp only [List.cons.injEq, and_true] at e0 e1 e6 e7
  have hx := bounds_u16 wx
  obtain ⟨x, rfl⟩ := Int.eq_ofNat_of_zero_le hx.1
  have k2 : ∀ j, j < 4 → cs[2 + j]? = [.bool v, .bool l, .int .i64 r, .int .i64 f][j]? := fun j hj => by
    rw [← e2, List.getElem?_take, if_pos hj, List.getElem?_drop]
  refine ⟨⟨t, i, v, l, r, f, raw, x⟩, ?_, ?_, ?_, ?_, ?_, ?_, ?_, ?_, show x < 65536 by omega⟩
  · have := hcell 0 (by omega); rw [List.getElem?_eq_getElem (by omega), e0] at this; exact this
  · have := hcell 1 (by omega); rw [List.getElem?_eq_getElem (by omega), e1] at this; exact this
  · exact (hcell 2 (by omega)).trans (k2 0 (by omega))
  · exact (hcell 3 (by omega)).trans (k2 1 (by omega))
  · exact (hcell 4 (by omega)).trans (k2 2 (by omega))
  · exact (hcell 5 (by omega)).trans (k2 3 (by omega))
  · have := hcell 6 (by omega); rw [List.getElem?_eq_getElem (by omega), e6] at this; exact this
  · have := hcell 7 (by omega); rw [List.getElem?_eq_getElem (by omega), e7] at this; exact this

theorem puts_of {W : World} {a0 : Option Addr} {len : Nat} (h : ∀ k, k < len → ∃ b o q, a0 = some ⟨b, o, none⟩ ∧ PutIs W b (o + k * 8) q) : ∃ P, Puts W a0 len P := by
  have h' : ∀ k, ∃ q, k < len → ∃ b o, a0 = some ⟨b, o, none⟩ ∧ PutIs W b (o + k * 8) q := fun k => by
    by_cases hk : k < len
    · obtain ⟨b, o, q, e, hq⟩ := h k hk
      exact ⟨q, fun _ => ⟨b, o, e, hq⟩⟩
    · exact ⟨⟨0, 0, false, false, 0, 0, false, 0⟩, fun hh => absurd hh hk⟩
  exact ⟨fun k => Classical.choose (h' k), fun k hk => Classical.choose_spec (h' k) hk⟩

set_option maxRecDepth 100000 in
/-- A slice of them, opened. -/
theorem puts_open {H : Type} {enc : TypeId × Value → H} {W : World} {fuel : Nat} {v : Value} {y : DataW H × List MemPlace} (hf : DataW.trod enc Try.prog W 0 (fun _ => true) true fuel 22 [v] = some y) :
    ∃ a0 len cap P, v = .slice a0 len cap ∧ len ≤ 9223372036854775807 ∧ Puts W a0 len P := by
  rcases open_slice Try.underlying22 hf with ⟨hcs, _⟩ | ⟨a, l, c, m, n, D, Pl, hcs, _, hl, hm, hmm, hx, hel⟩
  · simp only [List.cons.injEq, and_true] at hcs
    subst hcs
    exact ⟨none, 0, 0, fun _ => ⟨0, 0, false, false, 0, 0, false, 0⟩, rfl, by omega, fun k hk => by omega⟩
  · simp only [List.cons.injEq, and_true] at hcs
    subst hcs
    have hmm' : m = c := by simpa using hmm
    subst hmm'
    rw [cells_put] at hel
    obtain ⟨b, o, spot⟩ := a
    have each : ∀ k, k < l → ∃ b' o' q, some (⟨b, o, spot⟩ : Addr) = some ⟨b', o', none⟩ ∧ PutIs W b' (o' + k * 8) q := fun k hk => by
      have hspot : spot = none := by
        obtain ⟨cs', h1, _⟩ := hel 0 (by omega)
        obtain ⟨_, hlen, hc⟩ := World.cells?_some h1
        have := hc 0 (by omega)
        rw [List.getElem?_eq_getElem (by omega)] at this
        simpa [Addr.add] using World.cell?_spot this
      subst hspot
      obtain ⟨cs', h1, h2⟩ := hel k (by omega)
      obtain ⟨_, hlen, hc⟩ := World.cells?_some h1
      obtain ⟨q, hq⟩ := put_open b (o + k * 8) (fun j hj => by have := hc j hj; rwa [add_lit', add_lit'] at this) hlen h2
      exact ⟨b, o, q, rfl, hq⟩
    obtain ⟨P, hP⟩ := puts_of each
    exact ⟨_, l, _, P, rfl, by simp only [maxLen] at hm; omega, hP⟩

end Go.Proofs.Ytknpjfbjalboeaa
