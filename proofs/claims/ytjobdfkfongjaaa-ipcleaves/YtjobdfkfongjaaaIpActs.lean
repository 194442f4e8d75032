/-
  Acts of viceroylaw16 as plain data; the calls that tell lists, beside blocks of others. No statement is proved here.
-/
import Derived.Test.YtjobdfkfongjaaaIpWai
namespace Go.Proofs.Ytjobdfkfongjaaa
open Go.RowKit Go.Maps Go.WideMaps Go.Shelf

/-- An act. -/
structure Ac where
  d : Int
  a : Int
  t : Int
  x : Int
  m : Ms
  c : Bool
  bl : Bool
def acA (A : Ac) : Array Value := #[.int .i64 A.d, .int .i64 A.a, .int .i64 A.t, .int .i64 A.x, .int .i64 A.m.l, .int .i64 A.m.b, .int .i64 A.m.n, .int .u32 A.m.w0, .int .u32 A.m.w1, .int .u32 A.m.w2, .int .u32 A.m.w3, .bool A.c, .bool A.bl]
def acV (A : Ac) : Value := .agg (acA A)
/-- What an act leaves, and what it tells. -/
def doesS (S : Ip) (A : Ac) : Ip :=
  if A.d = 1 then senS S A.a A.t A.m A.c A.bl else if A.d = 2 then recS S A.a A.t A.bl else if A.d = 3 then repS S A.t A.m else if A.d = 4 then forS S A.t else if A.d = 5 then sigS S A.a A.x else if A.d = 6 then watS S A.a A.t A.bl
  else if A.d = 7 then binS S A.a A.t else if A.d = 8 then unbS S A.t else if A.d = 9 then canS S A.t else if A.d = 10 then calS S A.a else if A.d = 11 then cbaS S A.a A.x else if A.d = 12 then inbS S A.t else S
def doesN (S : Ip) (A : Ac) : Int := if A.d = 1 then senN S A.a A.t A.m else if A.d = 2 then recN S A.a A.t else if A.d = 3 then repN S A.t A.m else if A.d = 4 then forN S A.t else if A.d = 5 then sigN S A.a A.x else 0
def doesG (S : Ip) (A : Ac) : Bool := if A.d = 2 then recG S A.a A.t else if A.d = 6 then watG S A.a A.t else if A.d = 9 then waiB S A.t else if A.d = 12 then inbG S A.t else false
def doesE (S : Ip) (A : Ac) : Int := if A.d = 1 then senE S A.a A.t A.m else if A.d = 2 then recE S A.a A.t else if A.d = 3 then repE S A.t A.m else if A.d = 5 then sigE A.a A.x else if A.d = 6 then watE S A.a A.t else if A.d = 7 then binE S A.a A.t else if A.d = 8 then unbE S A.t else 0
def doesM (S : Ip) (A : Ac) : Ms := if A.d = 12 then inbM S A.t else M0
def doesL (S : Ip) (A : Ac) : List Int := if A.d = 10 then calL S A.a else if A.d = 11 then cbaL S A.a A.x else []
/-- An answer's cells. -/
def anA (n : Int) (g : Bool) (e : Int) (m : Ms) (v : Value) : Array Value := #[.int .i64 n, .bool g, .int .i64 e, .int .i64 m.l, .int .i64 m.b, .int .i64 m.n, .int .u32 m.w0, .int .u32 m.w1, .int .u32 m.w2, .int .u32 m.w3, v]
theorem size_an : (Try.prog.info? 39).map (·.size) = some 11 := by kernel_rfl
theorem ret_an {fn : Func} {p : Tmp} {tmps : Array Value} {g : Nat} {cs : Array Value} {w : World} (h : fn.results = #[.cell p 39]) (hp : tmps.getD p undef = .pointer (some ⟨g, 0, none⟩)) (hr : Row w g cs 39) (hs : cs.size = 11) :
    (results fn tmps).run Try.prog w = .ok (.agg cs) w :=
  results_cell_row h tmps w g _ cs (0, 0) _ hp hr Try.underlying39 rfl (by rw [hs]; exact size_an)
/-- Eleven cells, one after another. -/
def put11 (W : World) (g : Nat) (v0 v1 v2 v3 v4 v5 v6 v7 v8 v9 va : Value) : World := ((((((((((W.setCell ⟨g, 0, none⟩ v0).setCell ⟨g, 1, none⟩ v1).setCell ⟨g, 2, none⟩ v2).setCell ⟨g, 3, none⟩ v3).setCell ⟨g, 4, none⟩ v4).setCell ⟨g, 5, none⟩ v5).setCell ⟨g, 6, none⟩ v6).setCell ⟨g, 7, none⟩ v7).setCell ⟨g, 8, none⟩ v8).setCell ⟨g, 9, none⟩ v9).setCell ⟨g, 10, none⟩ va
theorem put11_row {W : World} {g : Nat} {c0 c1 c2 c3 c4 c5 c6 c7 c8 c9 ca : Value} {ty : TypeId} (r : Row W g #[c0, c1, c2, c3, c4, c5, c6, c7, c8, c9, ca] ty) (v0 v1 v2 v3 v4 v5 v6 v7 v8 v9 va : Value) : Row (put11 W g v0 v1 v2 v3 v4 v5 v6 v7 v8 v9 va) g #[v0, v1, v2, v3, v4, v5, v6, v7, v8, v9, va] ty := by
  have h := (((((((((((r.setCell 0 v0).setCell 1 v1).setCell 2 v2).setCell 3 v3).setCell 4 v4).setCell 5 v5).setCell 6 v6).setCell 7 v7).setCell 8 v8).setCell 9 v9).setCell 10 va)
  simp only [List.setIfInBounds_toArray, List.set_cons_zero, List.set_cons_succ] at h
  exact h
theorem put11_fr {S : Nat → Prop} {w W : World} {g : Nat} (f : Fr S w W) (hl : w.heap.size ≤ g ∨ S g) (v0 v1 v2 v3 v4 v5 v6 v7 v8 v9 va : Value) : Fr S w (put11 W g v0 v1 v2 v3 v4 v5 v6 v7 v8 v9 va) := ((((((((((f.setCell (p := ⟨g, 0, none⟩) hl v0).setCell (p := ⟨g, 1, none⟩) hl v1).setCell (p := ⟨g, 2, none⟩) hl v2).setCell (p := ⟨g, 3, none⟩) hl v3).setCell (p := ⟨g, 4, none⟩) hl v4).setCell (p := ⟨g, 5, none⟩) hl v5).setCell (p := ⟨g, 6, none⟩) hl v6).setCell (p := ⟨g, 7, none⟩) hl v7).setCell (p := ⟨g, 8, none⟩) hl v8).setCell (p := ⟨g, 9, none⟩) hl v9).setCell (p := ⟨g, 10, none⟩) hl va

section
variable {w0 w : World} {b : Nat} {S : Ip} {O : Nat → Prop}
theorem xall (h : Ix w0 w b S O) (ep : Int) (he : I64 ep) : Calls Try.prog 29 #[pv b, .int .i64 ep] w fun e w' => ∃ v, e = .returned v ∧ OI w.heap.size w' v (calL S ep) ∧ Ix w0 w' b (calS S ep) O ∧ FrO w0 O w w' := by
  obtain ⟨p, rfl, q1, q2, q3, q4, q5⟩ := h
  exact ((In.start q1 q5).cancelAll he).mono fun _ _ ⟨v, p', h1, h2, h3⟩ => ⟨v, h1, h3, ix_in q2 q3 q4 h2⟩
theorem xbad (h : Ix w0 w b S O) (ep bd : Int) (he : I64 ep) : Calls Try.prog 30 #[pv b, .int .i64 ep, .int .i64 bd] w fun e w' => ∃ v, e = .returned v ∧ OI w.heap.size w' v (cbaL S ep bd) ∧ Ix w0 w' b (cbaS S ep bd) O ∧ FrO w0 O w w' := by
  obtain ⟨p, rfl, q1, q2, q3, q4, q5⟩ := h
  exact ((In.start q1 q5).cancelBadged he).mono fun _ _ ⟨v, p', h1, h2, h3⟩ => ⟨v, h1, h3, ix_in q2 q3 q4 h2⟩
theorem xwaiting (h : Ix w0 w b S O) (ep : Int) (he : I64 ep) : Calls Try.prog 17 #[pv b, .int .i64 ep] w fun e w' => ∃ v, e = .returned v ∧ Fr none' w w' ∧ OI w.heap.size w' v (waiL S ep) := by
  obtain ⟨p, rfl, q1, q2, q3, q4, q5⟩ := h
  exact waiting_any w p S q1 q5 ep he
end

end Go.Proofs.Ytjobdfkfongjaaa
