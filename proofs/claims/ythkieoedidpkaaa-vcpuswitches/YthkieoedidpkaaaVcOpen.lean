/-
  What came in, opened from the form's own reading: numbers, acts of viceroylaw18, and slices of them. No statement is proved here.
-/
import Derived.Test.YthkieoedidpkaaaRows
import Derived.Test.YthkieoedidpkaaaVcPr
import Derived.Deep.Fields
import Derived.SizedLaws
import Derived.OpenShut
import Derived.ShutString
import Derived.ChangeOld
namespace Go.Proofs.Ythkieoedidpkaaa
open Go.ChangeShapes Go.WideShapes Go.ChangeAt Go.RowKit Go.Deep

theorem own_knob : ownKnob Try.prog.godebug = none := by kernel_rfl
theorem cells_a8 : Try.prog.cellsOf 33 = 8 := by kernel_rfl
theorem cells_int : Try.prog.cellsOf 3 = 1 := by kernel_rfl
theorem cells_bool : Try.prog.cellsOf 4 = 1 := by kernel_rfl
theorem bounds_i64 {x : Int} (h : (Lit.int .i64 x).wf = true) : I64 x := by
  have h1 : IntKind.i64.min = -9223372036854775808 := rfl
  have h2 : IntKind.i64.max = 9223372036854775807 := rfl
  simp only [Lit.wf, h1, h2, Bool.and_eq_true, decide_eq_true_eq] at h
  exact h
theorem bounds_u32 {x : Int} (h : (Lit.int .u32 x).wf = true) : 0 ≤ x ∧ x < 4294967296 := by
  have h1 : IntKind.u32.min = 0 := rfl
  have h2 : IntKind.u32.max = 4294967295 := rfl
  simp only [Lit.wf, h1, h2, Bool.and_eq_true, decide_eq_true_eq] at h
  omega
theorem field_one {cs : List Value} (i : Nat) (hi : i < cs.length) : (cs.drop i).take 1 = [cs[i]] := by
  rw [List.drop_eq_getElem_cons (by omega), List.take_succ_cons, List.take_zero]

/-- A slice that came in: its elements, K cells each, as f tells them. -/
def Sls {α : Type} (w : World) (a0 : Option Addr) (len K : Nat) (f : α → List Value) (ok : α → Prop) (A : Nat → α) : Prop := ∀ k, k < len → ∃ b o, a0 = some ⟨b, o, none⟩ ∧ (∀ j, j < K → w.cell? ⟨b, o + k * K + j, none⟩ = (f (A k))[j]?) ∧ ok (A k)
theorem Sls.keep {α : Type} {w w' : World} {a0 : Option Addr} {len K : Nat} {f : α → List Value} {ok : α → Prop} {A : Nat → α} (h : Sls w a0 len K f ok A) (hf : ∀ x, (f x).length = K) (fr : Fr none' w w') : Sls w' a0 len K f ok A := fun k hk => by
  obtain ⟨b, o, e, hc, q⟩ := h k hk
  refine ⟨b, o, e, fun j hj => ?_, q⟩
  have := hc j hj
  rw [List.getElem?_eq_getElem (by rw [hf]; exact hj)] at this ⊢
  exact cell_keep fr this (fun h => h)
theorem slice_open {α : Type} (dflt : α) {H : Type} {enc : TypeId × Value → H} {W : World} {fuel : Nat} {T e : TypeId} {K : Nat} (hT : Try.prog.underlying T = some (.slice e)) (hc : Try.prog.cellsOf e = K) (hK : 0 < K) (f : α → List Value) (ok : α → Prop)
    (dec : ∀ {n : Nat} {cs : List Value} {y : DataW H × List MemPlace}, DataW.trod enc Try.prog W 0 (fun _ => true) true n e cs = some y → ∃ x, cs = f x ∧ ok x)
    {a0 : Option Addr} {len cap : Nat} {y : DataW H × List MemPlace} (hf : DataW.trod enc Try.prog W 0 (fun _ => true) true fuel T [.slice a0 len cap] = some y) :
    len ≤ 9223372036854775807 ∧ ∃ A : Nat → α, Sls W a0 len K f ok A := by
  have key : len ≤ 9223372036854775807 ∧ ∀ k, k < len → ∃ b o x, a0 = some ⟨b, o, none⟩ ∧ (∀ j, j < K → W.cell? ⟨b, o + k * K + j, none⟩ = (f x)[j]?) ∧ ok x := by
    rcases open_slice hT hf with ⟨hcs, _⟩ | ⟨a, l, c, m, n, D, Pl, hcs, _, hl, hm, hmm, hx, hel⟩
    · simp only [List.cons.injEq, Value.slice.injEq, and_true] at hcs
      obtain ⟨rfl, rfl, rfl⟩ := hcs
      exact ⟨by omega, fun k hk => by omega⟩
    · simp only [List.cons.injEq, Value.slice.injEq, and_true] at hcs
      obtain ⟨rfl, rfl, rfl⟩ := hcs
      have hmm' : m = cap := by simpa using hmm
      subst hmm'
      refine ⟨by simp only [maxLen] at hm; omega, fun k hk => ?_⟩
      rw [hc] at hel
      obtain ⟨b, o, spot⟩ := a
      have hspot : spot = none := by
        obtain ⟨cs', h1, _⟩ := hel 0 (by omega)
        obtain ⟨_, hlen, hc'⟩ := World.cells?_some h1
        have := hc' 0 (by omega)
        rw [List.getElem?_eq_getElem (by omega)] at this
        simpa [Addr.add] using World.cell?_spot this
      subst hspot
      obtain ⟨cs', h1, h2⟩ := hel k (by omega)
      obtain ⟨_, hlen, hc'⟩ := World.cells?_some h1
      obtain ⟨q, e, hq⟩ := dec h2
      have hcell : ∀ j, j < K → W.cell? ⟨b, o + k * K + j, none⟩ = cs'[j]? := fun j hj => by have := hc' j hj; rwa [add_lit', add_lit'] at this
      rw [e] at hcell
      exact ⟨b, o, q, rfl, hcell, hq⟩
  refine ⟨key.1, ?_⟩
  have h' : ∀ k, ∃ a, k < len → ∃ b o, a0 = some ⟨b, o, none⟩ ∧ (∀ j, j < K → W.cell? ⟨b, o + k * K + j, none⟩ = (f a)[j]?) ∧ ok a := fun k => by
    by_cases hk : k < len
    · obtain ⟨b, o, a, e, hq⟩ := key.2 k hk
      exact ⟨a, fun _ => ⟨b, o, e, hq⟩⟩
    · exact ⟨dflt, fun hh => absurd hh hk⟩
  exact ⟨fun k => Classical.choose (h' k), fun k hk => Classical.choose_spec (h' k) hk⟩

def inL (x : Int) : List Value := [.int .i64 x]
abbrev Nums (w : World) (a0 : Option Addr) (len : Nat) (A : Nat → Int) : Prop := Sls w a0 len 1 inL I64 A
theorem Nums.keep' {w w' : World} {a0 : Option Addr} {len : Nat} {A : Nat → Int} (h : Nums w a0 len A) (fr : Fr none' w w') : Nums w' a0 len A := Sls.keep h (fun _ => rfl) fr
theorem nums_open {H : Type} {enc : TypeId × Value → H} {W : World} {fuel : Nat} {a0 : Option Addr} {len cap : Nat} {y : DataW H × List MemPlace} (hf : DataW.trod enc Try.prog W 0 (fun _ => true) true fuel 38 [.slice a0 len cap] = some y) :
    len ≤ 9223372036854775807 ∧ ∃ A, Nums W a0 len A :=
  slice_open (0 : Int) Try.underlying38 cells_int (by omega) inL I64 (fun h => by
    obtain ⟨a, e, _, u⟩ := DataW.trod_int Try.underlying3 h
    exact ⟨a, e, bounds_i64 u⟩) hf


/-- An act. -/
structure Ac where
  d : Int
  i : Int
  n : Int
  m : Int
  b : Nat → Int
  on : Bool
def acA (A : Ac) : Array Value := #[.int .i64 A.d, .int .i64 A.i, .int .i64 A.n, .int .i64 A.m, .int .u32 (A.b 0), .int .u32 (A.b 1), .int .u32 (A.b 2), .int .u32 (A.b 3), .int .u32 (A.b 4), .int .u32 (A.b 5), .int .u32 (A.b 6), .int .u32 (A.b 7), .bool A.on]
theorem cells_ac : Try.prog.cellsOf 35 = 13 := by kernel_rfl
def OkAc (A : Ac) : Prop := I64 A.d ∧ I64 A.i ∧ I64 A.n ∧ I64 A.m ∧ ∀ k, 0 ≤ A.b k ∧ A.b k < 4294967296
def acL (A : Ac) : List Value := (acA A).toList
theorem acL_len (A : Ac) : (acL A).length = 13 := rfl
set_option maxRecDepth 100000 in
theorem ac_cells {H : Type} {enc : TypeId × Value → H} {W : World} {n : Nat} {cs : List Value} {y : DataW H × List MemPlace} (h : DataW.trod enc Try.prog W 0 (fun _ => true) true n 35 cs = some y) :
    ∃ x : Ac, cs = acL x ∧ OkAc x := by
  obtain ⟨xs, n', _, _, hl, hxl, hf⟩ := DataW.trod_struct Try.underlying35 h
  rw [cells_ac] at hl
  have hxl' : xs.length = 6 := hxl
  have g0 : DataW.trod enc Try.prog W 0 (fun _ => true) true n' 3 ((cs.drop 0).take (Try.prog.cellsOf 3)) = xs[0]? := hf 0 _ rfl
  have g1 : DataW.trod enc Try.prog W 0 (fun _ => true) true n' 3 ((cs.drop 1).take (Try.prog.cellsOf 3)) = xs[1]? := hf 1 _ rfl
  have g2 : DataW.trod enc Try.prog W 0 (fun _ => true) true n' 3 ((cs.drop 2).take (Try.prog.cellsOf 3)) = xs[2]? := hf 2 _ rfl
  have g3 : DataW.trod enc Try.prog W 0 (fun _ => true) true n' 3 ((cs.drop 3).take (Try.prog.cellsOf 3)) = xs[3]? := hf 3 _ rfl
  have g4 : DataW.trod enc Try.prog W 0 (fun _ => true) true n' 33 ((cs.drop 4).take (Try.prog.cellsOf 33)) = xs[4]? := hf 4 _ rfl
  have g5 : DataW.trod enc Try.prog W 0 (fun _ => true) true n' 4 ((cs.drop 12).take (Try.prog.cellsOf 4)) = xs[5]? := hf 5 _ rfl
  rw [cells_int, field_one 0 (by omega), List.getElem?_eq_getElem (by omega)] at g0
  rw [cells_int, field_one 1 (by omega), List.getElem?_eq_getElem (by omega)] at g1
  rw [cells_int, field_one 2 (by omega), List.getElem?_eq_getElem (by omega)] at g2
  rw [cells_int, field_one 3 (by omega), List.getElem?_eq_getElem (by omega)] at g3
  rw [cells_a8, List.getElem?_eq_getElem (by omega)] at g4
  rw [cells_bool, field_one 12 (by omega), List.getElem?_eq_getElem (by omega)] at g5
  obtain ⟨a0, e0, _, u0⟩ := DataW.trod_int Try.underlying3 g0
  obtain ⟨a1, e1, _, u1⟩ := DataW.trod_int Try.underlying3 g1
  obtain ⟨a2, e2, _, u2⟩ := DataW.trod_int Try.underlying3 g2
  obtain ⟨a3, e3, _, u3⟩ := DataW.trod_int Try.underlying3 g3
  obtain ⟨b5, e5, _⟩ := DataW.trod_bool Try.underlying4 g5
  simp only [List.cons.injEq, and_true] at e0 e1 e2 e3 e5
  match cs, hl with
  | [c0, c1, c2, c3, c4, c5, c6, c7, c8, c9, c10, c11, c12], _ =>
    simp only [List.drop_succ_cons, List.drop_zero, List.take_succ_cons, List.take_zero] at g4
    obtain ⟨ys, m, _, _, hl3, hy3, hel⟩ := DataW.trod_array Try.underlying33 g4
    have q : ∀ j, j < 8 → ∃ x : Int, [c4, c5, c6, c7, c8, c9, c10, c11][j]? = some (.int .u32 x) ∧ 0 ≤ x ∧ x < 4294967296 := fun j hj => by
      have := hel j (by omega)
      rw [cells_u32, Nat.mul_one, field_one j (by simpa using hj), List.getElem?_eq_getElem (by omega)] at this
      obtain ⟨x, e, _, u⟩ := DataW.trod_int Try.underlying32 this
      simp only [List.cons.injEq, and_true] at e
      exact ⟨x, by rw [List.getElem?_eq_getElem (by simpa using hj), e], bounds_u32 u⟩
    obtain ⟨x0, q0, p0⟩ := q 0 (by omega)
    obtain ⟨x1, q1, p1⟩ := q 1 (by omega)
    obtain ⟨x2, q2, p2⟩ := q 2 (by omega)
    obtain ⟨x3, q3, p3⟩ := q 3 (by omega)
    obtain ⟨x4, q4, p4⟩ := q 4 (by omega)
    obtain ⟨x5, q5, p5⟩ := q 5 (by omega)
    obtain ⟨x6, q6, p6⟩ := q 6 (by omega)
    obtain ⟨x7, q7, p7⟩ := q 7 (by omega)
    simp only [List.getElem?_cons_zero, List.getElem?_cons_succ, Option.some.injEq] at q0 q1 q2 q3 q4 q5 q6 q7
    simp only [List.getElem_cons_zero, List.getElem_cons_succ] at e0 e1 e2 e3 e5
    refine ⟨⟨a0, a1, a2, a3, fun k => match k with | 0 => x0 | 1 => x1 | 2 => x2 | 3 => x3 | 4 => x4 | 5 => x5 | 6 => x6 | 7 => x7 | _ => 0, b5⟩, ?_, bounds_i64 u0, bounds_i64 u1, bounds_i64 u2, bounds_i64 u3, fun k => ?_⟩
    · rw [e0, e1, e2, e3, e5, q0, q1, q2, q3, q4, q5, q6, q7]
      rfl
    · show 0 ≤ (match k with | 0 => x0 | 1 => x1 | 2 => x2 | 3 => x3 | 4 => x4 | 5 => x5 | 6 => x6 | 7 => x7 | _ => 0) ∧ (match k with | 0 => x0 | 1 => x1 | 2 => x2 | 3 => x3 | 4 => x4 | 5 => x5 | 6 => x6 | 7 => x7 | _ => 0) < (4294967296 : Int)
      split <;> first | assumption | omega
/-- Acts that came in. -/
abbrev Acs (w : World) (a0 : Option Addr) (len : Nat) (A : Nat → Ac) : Prop := Sls w a0 len 13 acL OkAc A
theorem Acs.keep' {w w' : World} {a0 : Option Addr} {len : Nat} {A : Nat → Ac} (h : Acs w a0 len A) (fr : Fr none' w w') : Acs w' a0 len A := Sls.keep h acL_len fr
theorem acs_open {H : Type} {enc : TypeId × Value → H} {W : World} {fuel : Nat} {a0 : Option Addr} {len cap : Nat} {y : DataW H × List MemPlace} (hf : DataW.trod enc Try.prog W 0 (fun _ => true) true fuel 22 [.slice a0 len cap] = some y) :
    len ≤ 9223372036854775807 ∧ ∃ A, Acs W a0 len A :=
  slice_open (⟨0, 0, 0, 0, fun _ => 0, false⟩ : Ac) Try.underlying22 cells_ac (by omega) acL OkAc (fun h => ac_cells h) hf

end Go.Proofs.Ythkieoedidpkaaa
