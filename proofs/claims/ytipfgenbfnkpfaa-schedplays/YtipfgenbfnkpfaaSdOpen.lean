/-
  Tables and acts that came in, opened from the form's own reading. No statement is proved here.
-/
import Derived.Test.YtipfgenbfnkpfaaRows
import Derived.Test.YtipfgenbfnkpfaaSdNew
import Derived.Deep.Fields
import Derived.SizedLaws
import Derived.OpenShut
import Derived.ShutString
import Derived.ChangeOld
namespace Go.Proofs.Ytipfgenbfnkpfaa
open Go.ChangeShapes Go.WideShapes Go.ChangeAt Go.RowKit Go.Deep

theorem own_knob : ownKnob Try.prog.godebug = none := by kernel_rfl
theorem laid_out : laidOutB Try.prog = true := by kernel_rfl
theorem cells_tn : Try.prog.cellsOf 33 = 2 := by kernel_rfl
theorem cells_ac : Try.prog.cellsOf 36 = 4 := by kernel_rfl
theorem cells_int : Try.prog.cellsOf 3 = 1 := by kernel_rfl
theorem bounds_i64 {x : Int} (h : (Lit.int .i64 x).wf = true) : I64 x := by
  have h1 : IntKind.i64.min = -9223372036854775808 := rfl
  have h2 : IntKind.i64.max = 9223372036854775807 := rfl
  simp only [Lit.wf, h1, h2, Bool.and_eq_true, decide_eq_true_eq] at h
  exact h
theorem field_one {cs : List Value} (i : Nat) (hi : i < cs.length) : (cs.drop i).take 1 = [cs[i]] := by
  rw [List.drop_eq_getElem_cons (by omega), List.take_succ_cons, List.take_zero]

def OkN (x : Tn) : Prop := I64 x.d ∧ I64 x.n
def tnC (x : Tn) : Array Value := #[.int .i64 x.d, .int .i64 x.n]
/-- An act: what, a thread, a number, another one. -/
structure Ac where
  op : Int
  i : Int
  n : Int
  m : Int
def OkA (x : Ac) : Prop := I64 x.op ∧ I64 x.i ∧ I64 x.n ∧ I64 x.m
def acC (x : Ac) : Array Value := #[.int .i64 x.op, .int .i64 x.i, .int .i64 x.n, .int .i64 x.m]
abbrev acV (x : Ac) : Value := .agg (acC x)

set_option maxRecDepth 100000 in
theorem tn_cells {H : Type} {enc : TypeId × Value → H} {W : World} {n : Nat} {cs : List Value} {y : DataW H × List MemPlace} (h : DataW.trod enc Try.prog W 0 (fun _ => true) true n 33 cs = some y) :
    ∃ x : Tn, cs = (tnC x).toList ∧ OkN x := by
  obtain ⟨xs, n', _, _, hl, hxl, hf⟩ := DataW.trod_struct Try.underlying33 h
  rw [cells_tn] at hl
  have hxl' : xs.length = 2 := hxl
  have g0 : DataW.trod enc Try.prog W 0 (fun _ => true) true n' 3 ((cs.drop 0).take (Try.prog.cellsOf 3)) = xs[0]? := hf 0 _ rfl
  have g1 : DataW.trod enc Try.prog W 0 (fun _ => true) true n' 3 ((cs.drop 1).take (Try.prog.cellsOf 3)) = xs[1]? := hf 1 _ rfl
  rw [cells_int, field_one 0 (by omega), List.getElem?_eq_getElem (by omega)] at g0
  rw [cells_int, field_one 1 (by omega), List.getElem?_eq_getElem (by omega)] at g1
  obtain ⟨a0, e0, _, u0⟩ := DataW.trod_int Try.underlying3 g0
  obtain ⟨a1, e1, _, u1⟩ := DataW.trod_int Try.underlying3 g1
  simp only [List.cons.injEq, and_true] at e0 e1
  refine ⟨⟨a0, a1⟩, ?_, bounds_i64 u0, bounds_i64 u1⟩
  match cs, hl with
  | [c0, c1], _ =>
    simp only [List.getElem_cons_zero, List.getElem_cons_succ] at e0 e1
    rw [e0, e1]
    rfl

set_option maxRecDepth 100000 in
theorem ac_cells {H : Type} {enc : TypeId × Value → H} {W : World} {n : Nat} {cs : List Value} {y : DataW H × List MemPlace} (h : DataW.trod enc Try.prog W 0 (fun _ => true) true n 36 cs = some y) :
    ∃ x : Ac, cs = (acC x).toList ∧ OkA x := by
  obtain ⟨xs, n', _, _, hl, hxl, hf⟩ := DataW.trod_struct Try.underlying36 h
  rw [cells_ac] at hl
  have hxl' : xs.length = 4 := hxl
  have g0 : DataW.trod enc Try.prog W 0 (fun _ => true) true n' 3 ((cs.drop 0).take (Try.prog.cellsOf 3)) = xs[0]? := hf 0 _ rfl
  have g1 : DataW.trod enc Try.prog W 0 (fun _ => true) true n' 3 ((cs.drop 1).take (Try.prog.cellsOf 3)) = xs[1]? := hf 1 _ rfl
  have g2 : DataW.trod enc Try.prog W 0 (fun _ => true) true n' 3 ((cs.drop 2).take (Try.prog.cellsOf 3)) = xs[2]? := hf 2 _ rfl
  have g3 : DataW.trod enc Try.prog W 0 (fun _ => true) true n' 3 ((cs.drop 3).take (Try.prog.cellsOf 3)) = xs[3]? := hf 3 _ rfl
  rw [cells_int, field_one 0 (by omega), List.getElem?_eq_getElem (by omega)] at g0
  rw [cells_int, field_one 1 (by omega), List.getElem?_eq_getElem (by omega)] at g1
  rw [cells_int, field_one 2 (by omega), List.getElem?_eq_getElem (by omega)] at g2
  rw [cells_int, field_one 3 (by omega), List.getElem?_eq_getElem (by omega)] at g3
  obtain ⟨a0, e0, _, u0⟩ := DataW.trod_int Try.underlying3 g0
  obtain ⟨a1, e1, _, u1⟩ := DataW.trod_int Try.underlying3 g1
  obtain ⟨a2, e2, _, u2⟩ := DataW.trod_int Try.underlying3 g2
  obtain ⟨a3, e3, _, u3⟩ := DataW.trod_int Try.underlying3 g3
  simp only [List.cons.injEq, and_true] at e0 e1 e2 e3
  refine ⟨⟨a0, a1, a2, a3⟩, ?_, bounds_i64 u0, bounds_i64 u1, bounds_i64 u2, bounds_i64 u3⟩
  match cs, hl with
  | [c0, c1, c2, c3], _ =>
    simp only [List.getElem_cons_zero, List.getElem_cons_succ] at e0 e1 e2 e3
    rw [e0, e1, e2, e3]
    rfl

/-- Acts that came in. -/
def Acs (w : World) (a0 : Option Addr) (len : Nat) (A : Nat → Ac) : Prop := ∀ k, k < len → ∃ b o, a0 = some ⟨b, o, none⟩ ∧ (∀ j, j < 4 → w.cell? ⟨b, o + k * 4 + j, none⟩ = (acC (A k))[j]?) ∧ OkA (A k)

theorem Acs.keep {w w' : World} {a0 : Option Addr} {len : Nat} {A : Nat → Ac} (h : Acs w a0 len A) (f : Fr none' w w') : Acs w' a0 len A := fun k hk => by
  obtain ⟨b, o, e, hc, ok⟩ := h k hk
  refine ⟨b, o, e, fun j hj => ?_, ok⟩
  have hj5 : j < (acC (A k)).size := hj
  have := hc j hj
  rw [Array.getElem?_eq_getElem hj5] at this ⊢
  exact cell_keep f this (fun h => h)

def ac0 : Ac := ⟨0, 0, 0, 0⟩
set_option maxRecDepth 100000 in
theorem tns_row {H : Type} {enc : TypeId × Value → H} {W : World} {fuel : Nat} {a0 : Option Addr} {len cap : Nat} {y : DataW H × List MemPlace} (hf : DataW.trod enc Try.prog W 0 (fun _ => true) true fuel 22 [.slice a0 len cap] = some y) :
    len ≤ 9223372036854775807 ∧ ((a0 = none ∧ len = 0 ∧ cap = 0) ∨ ∃ a, a0 = some a) ∧ ∀ k, k < len → ∃ b o a, a0 = some ⟨b, o, none⟩ ∧ (∀ j, j < 2 → W.cell? ⟨b, o + k * 2 + j, none⟩ = (tnC a)[j]?) ∧ OkN a := by
  rcases open_slice Try.underlying22 hf with ⟨hcs, _⟩ | ⟨a, l, c, m, n, D, Pl, hcs, _, hl, hm, hmm, hx, hel⟩
  · simp only [List.cons.injEq, Value.slice.injEq, and_true] at hcs
    obtain ⟨rfl, rfl, rfl⟩ := hcs
    exact ⟨by omega, Or.inl ⟨rfl, rfl, rfl⟩, fun k hk => by omega⟩
  · simp only [List.cons.injEq, Value.slice.injEq, and_true] at hcs
    obtain ⟨rfl, rfl, rfl⟩ := hcs
    have hmm' : m = cap := by simpa using hmm
    subst hmm'
    refine ⟨by simp only [maxLen] at hm; omega, Or.inr ⟨_, rfl⟩, fun k hk => ?_⟩
    rw [cells_tn] at hel
    obtain ⟨b, o, spot⟩ := a
    have hspot : spot = none := by
      obtain ⟨cs', h1, _⟩ := hel 0 (by omega)
      obtain ⟨_, hlen, hc⟩ := World.cells?_some h1
      have := hc 0 (by omega)
      rw [List.getElem?_eq_getElem (by omega)] at this
      simpa [Addr.add] using World.cell?_spot this
    subst hspot
    obtain ⟨cs', h1, h2⟩ := hel k (by omega)
    obtain ⟨_, hlen, hc⟩ := World.cells?_some h1
    obtain ⟨q, e, hb⟩ := tn_cells h2
    have hcell : ∀ j, j < 2 → W.cell? ⟨b, o + k * 2 + j, none⟩ = cs'[j]? := fun j hj => by have := hc j hj; rwa [add_lit', add_lit'] at this
    rw [e] at hcell
    exact ⟨b, o, q, rfl, fun j hj => by rw [hcell j hj]; simp, hb⟩

set_option maxRecDepth 100000 in
theorem acs_row {H : Type} {enc : TypeId × Value → H} {W : World} {fuel : Nat} {a0 : Option Addr} {len cap : Nat} {y : DataW H × List MemPlace} (hf : DataW.trod enc Try.prog W 0 (fun _ => true) true fuel 23 [.slice a0 len cap] = some y) :
    len ≤ 9223372036854775807 ∧ ((a0 = none ∧ len = 0 ∧ cap = 0) ∨ ∃ a, a0 = some a) ∧ ∀ k, k < len → ∃ b o a, a0 = some ⟨b, o, none⟩ ∧ (∀ j, j < 4 → W.cell? ⟨b, o + k * 4 + j, none⟩ = (acC a)[j]?) ∧ OkA a := by
  rcases open_slice Try.underlying23 hf with ⟨hcs, _⟩ | ⟨a, l, c, m, n, D, Pl, hcs, _, hl, hm, hmm, hx, hel⟩
  · simp only [List.cons.injEq, Value.slice.injEq, and_true] at hcs
    obtain ⟨rfl, rfl, rfl⟩ := hcs
    exact ⟨by omega, Or.inl ⟨rfl, rfl, rfl⟩, fun k hk => by omega⟩
  · simp only [List.cons.injEq, Value.slice.injEq, and_true] at hcs
    obtain ⟨rfl, rfl, rfl⟩ := hcs
    have hmm' : m = cap := by simpa using hmm
    subst hmm'
    refine ⟨by simp only [maxLen] at hm; omega, Or.inr ⟨_, rfl⟩, fun k hk => ?_⟩
    rw [cells_ac] at hel
    obtain ⟨b, o, spot⟩ := a
    have hspot : spot = none := by
      obtain ⟨cs', h1, _⟩ := hel 0 (by omega)
      obtain ⟨_, hlen, hc⟩ := World.cells?_some h1
      have := hc 0 (by omega)
      rw [List.getElem?_eq_getElem (by omega)] at this
      simpa [Addr.add] using World.cell?_spot this
    subst hspot
    obtain ⟨cs', h1, h2⟩ := hel k (by omega)
    obtain ⟨_, hlen, hc⟩ := World.cells?_some h1
    obtain ⟨q, e, hb⟩ := ac_cells h2
    have hcell : ∀ j, j < 4 → W.cell? ⟨b, o + k * 4 + j, none⟩ = cs'[j]? := fun j hj => by have := hc j hj; rwa [add_lit', add_lit'] at this
    rw [e] at hcell
    exact ⟨b, o, q, rfl, fun j hj => by rw [hcell j hj]; simp, hb⟩

theorem acs_open {H : Type} {enc : TypeId × Value → H} {W : World} {fuel : Nat} {a0 : Option Addr} {len cap : Nat} {y : DataW H × List MemPlace} (hf : DataW.trod enc Try.prog W 0 (fun _ => true) true fuel 23 [.slice a0 len cap] = some y) :
    len ≤ 9223372036854775807 ∧ ∃ A, Acs W a0 len A := by
  obtain ⟨h1, _, h⟩ := acs_row hf
  have h' : ∀ k, ∃ a, k < len → ∃ b o, a0 = some ⟨b, o, none⟩ ∧ (∀ j, j < 4 → W.cell? ⟨b, o + k * 4 + j, none⟩ = (acC a)[j]?) ∧ OkA a := fun k => by
    by_cases hk : k < len
    · obtain ⟨b, o, a, e, hq⟩ := h k hk
      exact ⟨a, fun _ => ⟨b, o, e, hq⟩⟩
    · exact ⟨ac0, fun hh => absurd hh hk⟩
  exact ⟨h1, fun k => Classical.choose (h' k), fun k hk => Classical.choose_spec (h' k) hk⟩
theorem tns_open {H : Type} {enc : TypeId × Value → H} {W : World} {fuel : Nat} {a0 : Option Addr} {len cap : Nat} {y : DataW H × List MemPlace} (hf : DataW.trod enc Try.prog W 0 (fun _ => true) true fuel 22 [.slice a0 len cap] = some y) :
    len ≤ 9223372036854775807 ∧ ∃ L, L.length = len ∧ TnI W (.slice a0 len cap) L ∧ ∀ x ∈ L, OkN x := by
  obtain ⟨h1, h2, h⟩ := tns_row hf
  have h' : ∀ k, ∃ a, k < len → ∃ b o, a0 = some ⟨b, o, none⟩ ∧ (∀ j, j < 2 → W.cell? ⟨b, o + k * 2 + j, none⟩ = (tnC a)[j]?) ∧ OkN a := fun k => by
    by_cases hk : k < len
    · obtain ⟨b, o, a, e, hq⟩ := h k hk
      exact ⟨a, fun _ => ⟨b, o, e, hq⟩⟩
    · exact ⟨⟨0, 0⟩, fun hh => absurd hh hk⟩
  obtain ⟨T, hT⟩ : ∃ T : Nat → Tn, ∀ k, k < len → ∃ b o, a0 = some ⟨b, o, none⟩ ∧ (∀ j, j < 2 → W.cell? ⟨b, o + k * 2 + j, none⟩ = (tnC (T k))[j]?) ∧ OkN (T k) := ⟨fun k => Classical.choose (h' k), fun k hk => Classical.choose_spec (h' k) hk⟩
  clear h h'
  refine ⟨h1, (List.range len).map T, by simp, ?_, fun x hx => ?_⟩
  · rcases h2 with ⟨rfl, rfl, rfl⟩ | ⟨a, rfl⟩
    · exact Or.inl ⟨rfl, rfl⟩
    · refine Or.inr ⟨a, cap, by simp, fun k x hk => ?_⟩
      rw [List.getElem?_map] at hk
      have hlt : k < len := by
        rcases Nat.lt_or_ge k len with h | h
        · exact h
        · rw [List.getElem?_eq_none (by simpa using h)] at hk; cases hk
      rw [List.getElem?_range hlt] at hk
      simp only [Option.map_some, Option.some.injEq] at hk
      subst hk
      obtain ⟨b, o, e, hc, _⟩ := hT k hlt
      exact ⟨b, o, Option.some.inj e, hc 0 (by omega), hc 1 (by omega)⟩
  · obtain ⟨k, hk, rfl⟩ := List.mem_map.mp hx
    rw [List.mem_range] at hk
    obtain ⟨_, _, _, _, h⟩ := hT k hk
    exact h

end Go.Proofs.Ytipfgenbfnkpfaa
