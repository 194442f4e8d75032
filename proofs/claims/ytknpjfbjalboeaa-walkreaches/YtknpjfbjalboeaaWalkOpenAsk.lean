/-
  What came in, opened from the form's own reading: a slice of spaces, a slice of questions. No statement is proved here.
-/
import Derived.Test.YtknpjfbjalboeaaWalkOpen
import Derived.Test.YtknpjfbjalboeaaWalkBuf
namespace Go.Proofs.Ytknpjfbjalboeaa
open Go.ChangeShapes Go.WideShapes Go.ChangeAt Go.RowKit Go.Deep

theorem cells_spaces : Try.prog.cellsOf 38 = 4 := by kernel_rfl
theorem cells_asks : Try.prog.cellsOf 40 = 9 := by kernel_rfl
theorem cells_slice : Try.prog.cellsOf 22 = 1 := by kernel_rfl

/-- A space, from block b's place o on. -/
structure SpIs (w : World) (b o : Nat) (q : Spc) : Prop where
  c0 : w.cell? ⟨b, o, none⟩ = some (.int .i64 q.v)
  c1 : w.cell? ⟨b, o + 1, none⟩ = some (.int .i64 q.a)
  c2 : w.cell? ⟨b, o + 2, none⟩ = some (.int .i64 q.f)
  c3 : w.cell? ⟨b, o + 3, none⟩ = some (.int .i64 q.s)

def Spaces (w : World) (a0 : Option Addr) (len : Nat) (Q : Nat → Spc) : Prop := ∀ k, k < len → ∃ b o, a0 = some ⟨b, o, none⟩ ∧ SpIs w b (o + k * 4) (Q k)

theorem SpIs.keep {S : Nat → Prop} {w w' : World} {b o : Nat} {q : Spc} (h : SpIs w b o q) (k : Fr S w w') (hs : ¬ S b) : SpIs w' b o q :=
  ⟨cell_keep k h.c0 hs, cell_keep k h.c1 hs, cell_keep k h.c2 hs, cell_keep k h.c3 hs⟩

theorem spaces_one {H : Type} {enc : TypeId × Value → H} {W : World} {n : Nat} {cs : List Value} {y : DataW H × List MemPlace} (b o : Nat) (hcell : ∀ j, j < 4 → W.cell? ⟨b, o + j, none⟩ = cs[j]?) (_hl : cs.length = 4)
    (h : DataW.trod enc Try.prog W 0 (fun _ => true) true n 38 cs = some y) : ∃ q, SpIs W b o q := by
  obtain ⟨v, a, f, s, e⟩ := space_cells h
  subst e
  exact ⟨⟨v, a, f, s⟩, hcell 0 (by omega), hcell 1 (by omega), hcell 2 (by omega), hcell 3 (by omega)⟩

/-- A question: a space, page, right, entry, what is evicted, and a slice of entries to be laid. -/
structure Aq where (v a f s pg wt ix ev : Int) (pa : Option Addr) (pl pc : Nat) (P : Nat → Pt)

structure AskIs (w : World) (b o : Nat) (q : Aq) : Prop where
  c0 : w.cell? ⟨b, o, none⟩ = some (.int .i64 q.v)
  c1 : w.cell? ⟨b, o + 1, none⟩ = some (.int .i64 q.a)
  c2 : w.cell? ⟨b, o + 2, none⟩ = some (.int .i64 q.f)
  c3 : w.cell? ⟨b, o + 3, none⟩ = some (.int .i64 q.s)
  c4 : w.cell? ⟨b, o + 4, none⟩ = some (.int .i64 q.pg)
  c5 : w.cell? ⟨b, o + 5, none⟩ = some (.int .i64 q.wt)
  c6 : w.cell? ⟨b, o + 6, none⟩ = some (.int .i64 q.ix)
  c7 : w.cell? ⟨b, o + 7, none⟩ = some (.int .i64 q.ev)
  c8 : w.cell? ⟨b, o + 8, none⟩ = some (.slice q.pa q.pl q.pc)
  evb : -9223372036854775808 ≤ q.ev ∧ q.ev ≤ 9223372036854775807
  plb : q.pl ≤ 9223372036854775807
  puts : Puts w q.pa q.pl q.P

def Asks (w : World) (a0 : Option Addr) (len : Nat) (A : Nat → Aq) : Prop := ∀ k, k < len → ∃ b o, a0 = some ⟨b, o, none⟩ ∧ AskIs w b (o + k * 9) (A k)

theorem AskIs.keep {w w' : World} {b o : Nat} {q : Aq} (h : AskIs w b o q) (k : Fr none' w w') : AskIs w' b o q :=
  ⟨cell_keep k h.c0 (fun h => h), cell_keep k h.c1 (fun h => h), cell_keep k h.c2 (fun h => h), cell_keep k h.c3 (fun h => h), cell_keep k h.c4 (fun h => h), cell_keep k h.c5 (fun h => h), cell_keep k h.c6 (fun h => h), cell_keep k h.c7 (fun h => h), cell_keep k h.c8 (fun h => h), h.evb, h.plb, h.puts.keep k⟩

set_option maxRecDepth 100000 in
theorem asks_one {H : Type} {enc : TypeId × Value → H} {W : World} {n : Nat} {cs : List Value} {y : DataW H × List MemPlace} (b o : Nat) (hcell : ∀ j, j < 9 → W.cell? ⟨b, o + j, none⟩ = cs[j]?) (hl : cs.length = 9)
    (h : DataW.trod enc Try.prog W 0 (fun _ => true) true n 40 cs = some y) : ∃ q, AskIs W b o q := by
  obtain ⟨xs, n', _, _, _, hxl, hf⟩ := DataW.trod_struct Try.underlying40 h
  have hxl' : xs.length = 6 := hxl
  have g0 : DataW.trod enc Try.prog W 0 (fun _ => true) true n' 38 ((cs.drop 0).take (Try.prog.cellsOf 38)) = xs[0]? := hf 0 _ rfl
  have g1 : DataW.trod enc Try.prog W 0 (fun _ => true) true n' 3 ((cs.drop 4).take (Try.prog.cellsOf 3)) = xs[1]? := hf 1 _ rfl
  have g2 : DataW.trod enc Try.prog W 0 (fun _ => true) true n' 3 ((cs.drop 5).take (Try.prog.cellsOf 3)) = xs[2]? := hf 2 _ rfl
  have g3 : DataW.trod enc Try.prog W 0 (fun _ => true) true n' 3 ((cs.drop 6).take (Try.prog.cellsOf 3)) = xs[3]? := hf 3 _ rfl
  have g4 : DataW.trod enc Try.prog W 0 (fun _ => true) true n' 3 ((cs.drop 7).take (Try.prog.cellsOf 3)) = xs[4]? := hf 4 _ rfl
  have g5 : DataW.trod enc Try.prog W 0 (fun _ => true) true n' 22 ((cs.drop 8).take (Try.prog.cellsOf 22)) = xs[5]? := hf 5 _ rfl
  rw [cells_spaces, List.getElem?_eq_getElem (by omega)] at g0
  rw [cells_int, field_one 4 (by omega), List.getElem?_eq_getElem (by omega)] at g1
  rw [cells_int, field_one 5 (by omega), List.getElem?_eq_getElem (by omega)] at g2
  rw [cells_int, field_one 6 (by omega), List.getElem?_eq_getElem (by omega)] at g3
  rw [cells_int, field_one 7 (by omega), List.getElem?_eq_getElem (by omega)] at g4
  rw [cells_slice, field_one 8 (by omega), List.getElem?_eq_getElem (by omega)] at g5
  obtain ⟨v, a, f, s, e0⟩ := space_cells g0
  obtain ⟨pg, e1, _, _⟩ := DataW.trod_int Try.underlying3 g1
  obtain ⟨wt, e2, _, _⟩ := DataW.trod_int Try.underlying3 g2
  obtain ⟨ix, e3, _, _⟩ := DataW.trod_int Try.underlying3 g3
  obtain ⟨ev, e4, _, w4⟩ := DataW.trod_int Try.underlying3 g4
  obtain ⟨pa, pl, pc, P, e5, hpl, hP⟩ := puts_open g5
  simp only [List.cons.injEq, and_true] at e1 e2 e3 e4
  have k0 : ∀ j, j < 4 → cs[j]? = [.int .i64 v, .int .i64 a, .int .i64 f, .int .i64 s][j]? := fun j hj => by
    rw [← e0, List.getElem?_take, if_pos hj, List.drop_zero]
  refine ⟨⟨v, a, f, s, pg, wt, ix, ev, pa, pl, pc, P⟩, (hcell 0 (by omega)).trans (k0 0 (by omega)), (hcell 1 (by omega)).trans (k0 1 (by omega)), (hcell 2 (by omega)).trans (k0 2 (by omega)), (hcell 3 (by omega)).trans (k0 3 (by omega)), ?_, ?_, ?_, ?_, ?_, bounds_i64 w4, hpl, hP⟩
  · have := hcell 4 (by omega); rw [List.getElem?_eq_getElem (by omega), e1] at this; exact this
  · have := hcell 5 (by omega); rw [List.getElem?_eq_getElem (by omega), e2] at this; exact this
  · have := hcell 6 (by omega); rw [List.getElem?_eq_getElem (by omega), e3] at this; exact this
  · have := hcell 7 (by omega); rw [List.getElem?_eq_getElem (by omega), e4] at this; exact this
  · have := hcell 8 (by omega); rw [List.getElem?_eq_getElem (by omega), e5] at this; exact this

set_option maxRecDepth 100000 in
theorem asks_open {H : Type} {enc : TypeId × Value → H} {W : World} {fuel : Nat} {v : Value} {y : DataW H × List MemPlace} (hf : DataW.trod enc Try.prog W 0 (fun _ => true) true fuel 23 [v] = some y) :
    ∃ a0 len cap P, v = .slice a0 len cap ∧ len ≤ 9223372036854775807 ∧ Asks W a0 len P := by
  rcases open_slice Try.underlying23 hf with ⟨hcs, _⟩ | ⟨a, l, c, m, n, D, Pl, hcs, _, hl, hm, hmm, hx, hel⟩
  · simp only [List.cons.injEq, and_true] at hcs
    subst hcs
    exact ⟨none, 0, 0, fun _ => ⟨0, 0, 0, 0, 0, 0, 0, 0, none, 0, 0, fun _ => ⟨0, 0, false, false, 0, 0, false, 0⟩⟩, rfl, by omega, fun k hk => by omega⟩
  · simp only [List.cons.injEq, and_true] at hcs
    subst hcs
    have hmm' : m = c := by simpa using hmm
    subst hmm'
    rw [cells_asks] at hel
    obtain ⟨b, o, spot⟩ := a
    have each : ∀ k, k < l → ∃ b' o' q, some (⟨b, o, spot⟩ : Addr) = some ⟨b', o', none⟩ ∧ AskIs W b' (o' + k * 9) q := fun k hk => by
      have hspot : spot = none := by
        obtain ⟨cs', h1, _⟩ := hel 0 (by omega)
        obtain ⟨_, hlen, hc⟩ := World.cells?_some h1
        have := hc 0 (by omega)
        rw [List.getElem?_eq_getElem (by omega)] at this
        simpa [Addr.add] using World.cell?_spot this
      subst hspot
      obtain ⟨cs', h1, h2⟩ := hel k (by omega)
      obtain ⟨_, hlen, hc⟩ := World.cells?_some h1
      obtain ⟨q, hq⟩ := asks_one b (o + k * 9) (fun j hj => by have := hc j hj; rwa [add_lit', add_lit'] at this) hlen h2
      exact ⟨b, o, q, rfl, hq⟩
    have h' : ∀ k, ∃ q, k < l → ∃ b' o', some (⟨b, o, spot⟩ : Addr) = some ⟨b', o', none⟩ ∧ AskIs W b' (o' + k * 9) q := fun k => by
      by_cases hk : k < l
      · obtain ⟨b', o', q, e, hq⟩ := each k hk
        exact ⟨q, fun _ => ⟨b', o', e, hq⟩⟩
      · exact ⟨⟨0, 0, 0, 0, 0, 0, 0, 0, none, 0, 0, fun _ => ⟨0, 0, false, false, 0, 0, false, 0⟩⟩, fun hh => absurd hh hk⟩
    exact ⟨_, l, _, fun k => Classical.choose (h' k), rfl, by simp only [maxLen] at hm; omega, fun k hk => Classical.choose_spec (h' k) hk⟩

end Go.Proofs.Ytknpjfbjalboeaa
