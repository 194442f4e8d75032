/-
  For the law IommuForgets: systems whose two sides have come apart, two of them side by side. No statement is proved here.
-/
import Derived.Test.YthmombgogmgobaaIoForgP
import Derived.Test.YthmombgogmgobaaIoOff
import Derived.Test.YthmombgogmgobaaIoPutOwn
import Derived.Test.YthmombgogmgobaaIoSame
import Derived.Test.YthmombgogmgobaaIoAwake
import Derived.Test.YthmombgogmgobaaIoOpen
namespace Go.Proofs.Ythmombgogmgobaa
open Go.RowKit

/-- A system by its program's side; the document's is what it is. -/
def IsOff (w : World) (x : Nat) (U : Nat → Prop) (bs : List UInt8) (S : Io) : Prop :=
  ∃ pm bm pr br bi ji O Q bs' S', BoAt w x pm bm pr br bi ji O Q bs bs' S S' ∧ U = boU x pm bm pr br O Q
theorem IsBo.off {w : World} {x : Nat} {U : Nat → Prop} {bs : List UInt8} {S : Io} (h : IsBo w x U bs S) : IsOff w x U bs S := by
  obtain ⟨pm, bm, pr, br, bi, ji, O, Q, h, hU⟩ := h
  exact ⟨pm, bm, pr, br, bi, ji, O, Q, bs, S, h, hU⟩
theorem IsOff.keep {w w' : World} {x : Nat} {U T : Nat → Prop} {bs : List UInt8} {S : Io} (h : IsOff w x U bs S) (f : Fr T w w') (hs : ∀ k, U k → ¬ T k) : IsOff w' x U bs S := by
  obtain ⟨pm, bm, pr, br, bi, ji, O, Q, bs', S', h, hU⟩ := h
  exact ⟨pm, bm, pr, br, bi, ji, O, Q, bs', S', h.keep f (fun k hk => hs k (by rw [hU]; exact hk)), hU⟩
theorem IsOff.keep0 {w w' : World} {x : Nat} {U : Nat → Prop} {bs : List UInt8} {S : Io} (h : IsOff w x U bs S) (f : Fr none' w w') : IsOff w' x U bs S := h.keep f (fun _ _ h => h)
theorem IsOff.lt {w : World} {x : Nat} {U : Nat → Prop} {bs : List UInt8} {S : Io} (h : IsOff w x U bs S) (k : Nat) (hk : U k) : k < w.heap.size := by
  obtain ⟨pm, bm, pr, br, bi, ji, O, Q, bs', S', h, hU⟩ := h
  rw [hU] at hk
  exact h.lt k hk
theorem IsOff.ok {w : World} {x : Nat} {U : Nat → Prop} {bs : List UInt8} {S : Io} (h : IsOff w x U bs S) : IoOk S := by
  obtain ⟨pm, bm, pr, br, bi, ji, O, Q, bs', S', h, hU⟩ := h
  obtain ⟨_, _, a, _⟩ := h.io
  exact a.ok
theorem does_offI (w : World) (x : Nat) (U : Nat → Prop) (bs : List UInt8) (S : Io) (a : Aq) (h3 : a.d ≠ 3) (h8 : a.d ≠ 8) (h : IsOff w x U bs S) :
    Calls Try.prog 10 #[.pointer (some ⟨x, 0, none⟩), .agg #[.int .i64 a.d, .int .i64 a.s, .int .i64 a.n, .bool a.wr, .int .u8 (a.b : Int), .int .i64 a.q.t, .int .i64 a.q.i, .bool a.q.v, .bool a.q.l, .int .i64 a.q.r, .int .i64 a.q.f]] w fun e w' => (∃ bb, e = .returned (.bool bb)) ∧ ∃ U', IsOff w' x U' bs (actS bs S a) ∧ ChgU w U w' U' := by
  obtain ⟨pm, bm, pr, br, bi, ji, O, Q, bs', S', h, rfl⟩ := h
  refine (does_off w x pm bm pr br bi ji O Q bs bs' S S' a h3 h8 h).mono ?_
  rintro e w' ⟨h1, O', Q', h2, u⟩
  exact ⟨h1, _, ⟨pm, bm, pr, br, bi, ji, O', Q', bs', _, h2, rfl⟩, u⟩

/-- Two that lie apart, and behind all that was. -/
structure Tw (w0 w : World) (x y : Nat) (Ux Uy : Nat → Prop) (bs bs' : List UInt8) (S T : Io) : Prop where
  fr : Fr none' w0 w
  hx : IsOff w x Ux bs S
  hy : IsOff w y Uy bs' T
  nx : ∀ k, Ux k → w0.heap.size ≤ k
  ny : ∀ k, Uy k → w0.heap.size ≤ k
  di : ∀ k, Ux k → ¬ Uy k
theorem fr_behind {w wa wb : World} {U : Nat → Prop} (f : Fr none' w wa) (u : Fr U wa wb) (h : ∀ k, U k → w.heap.size ≤ k) : Fr none' w wb :=
  ⟨u.os.trans f.os, u.tape.trans f.tape, u.output.trans f.output, Nat.le_trans f.size u.size, fun i hi hn => (u.block i (Nat.lt_of_lt_of_le hi f.size) (fun e => by have := h i e; omega)).trans (f.block i hi hn)⟩
section
variable {w0 w w' : World} {x y : Nat} {Ux Uy U' : Nat → Prop} {bs bs' bs1 : List UInt8} {S T S1 : Io}
theorem Tw.stepX (h : Tw w0 w x y Ux Uy bs bs' S T) (k : IsOff w' x U' bs1 S1) (u : ChgU w Ux w' U') : Tw w0 w' x y U' Uy bs1 bs' S1 T :=
  ⟨fr_behind h.fr u.1 h.nx, k, h.hy.keep u.1 (fun j hj hux => h.di j hux hj), fun j hj => by
    rcases u.2 j hj with e | e
    · exact h.nx j e
    · have := h.fr.size; omega, h.ny, fun j hj hy => by
    rcases u.2 j hj with e | e
    · exact h.di j e hy
    · have := h.hy.lt j hy; omega⟩
theorem Tw.stepY (h : Tw w0 w x y Ux Uy bs bs' S T) (k : IsOff w' y U' bs1 S1) (u : ChgU w Uy w' U') : Tw w0 w' x y Ux U' bs bs1 S S1 :=
  ⟨fr_behind h.fr u.1 h.ny, h.hx.keep u.1 (fun j hj huy => h.di j hj huy), k, h.nx, fun j hj => by
    rcases u.2 j hj with e | e
    · exact h.ny j e
    · have := h.fr.size; omega, fun j hj hy => by
    rcases u.2 j hy with e | e
    · exact h.di j hj e
    · have := h.hx.lt j hj; omega⟩
theorem Tw.keep0 (h : Tw w0 w x y Ux Uy bs bs' S T) (f : Fr none' w w') : Tw w0 w' x y Ux Uy bs bs' S T := ⟨h.fr.trans f, h.hx.keep0 f, h.hy.keep0 f, h.nx, h.ny, h.di⟩
end

/-- An act in a block of its own beside the two. -/
def aqV (a : Aq) : Array Value := #[.int .i64 a.d, .int .i64 a.s, .int .i64 a.n, .bool a.wr, .int .u8 (a.b : Int), .int .i64 a.q.t, .int .i64 a.q.i, .bool a.q.v, .bool a.q.l, .int .i64 a.q.r, .int .i64 a.q.f]
structure Ab (w : World) (B : Nat) (a : Aq) (Ux Uy : Nat → Prop) : Prop where
  row : Row w B (aqV a) 33
  nx : ¬ Ux B
  ny : ¬ Uy B
section
variable {w w' : World} {B : Nat} {a : Aq} {Ux Uy U' : Nat → Prop}
theorem Ab.stepX (h : Ab w B a Ux Uy) (u : ChgU w Ux w' U') : Ab w' B a U' Uy :=
  ⟨h.row.keep u.1 h.nx, fun e => by
    rcases u.2 B e with e | e
    · exact h.nx e
    · have := h.row.lt; omega, h.ny⟩
theorem Ab.stepY (h : Ab w B a Ux Uy) (u : ChgU w Uy w' U') : Ab w' B a Ux U' :=
  ⟨h.row.keep u.1 h.ny, h.nx, fun e => by
    rcases u.2 B e with e | e
    · exact h.ny e
    · have := h.row.lt; omega⟩
theorem Ab.keep0 (h : Ab w B a Ux Uy) (f : Fr none' w w') : Ab w' B a Ux Uy := ⟨h.row.keep f (fun h => h), h.nx, h.ny⟩
theorem Ab.cells (h : Ab w B a Ux Uy) : w.cell? ⟨B, 0, none⟩ = some (.int .i64 a.d) ∧ w.cell? ⟨B, 1, none⟩ = some (.int .i64 a.s) ∧ w.cell? ⟨B, 2, none⟩ = some (.int .i64 a.n) ∧ w.cell? ⟨B, 3, none⟩ = some (.bool a.wr) ∧ w.cell? ⟨B, 4, none⟩ = some (.int .u8 (a.b : Int)) ∧ w.cell? ⟨B, 5, none⟩ = some (.int .i64 a.q.t) ∧ w.cell? ⟨B, 6, none⟩ = some (.int .i64 a.q.i) ∧ w.cell? ⟨B, 7, none⟩ = some (.bool a.q.v) ∧ w.cell? ⟨B, 8, none⟩ = some (.bool a.q.l) ∧ w.cell? ⟨B, 9, none⟩ = some (.int .i64 a.q.r) ∧ w.cell? ⟨B, 10, none⟩ = some (.int .i64 a.q.f) :=
  ⟨h.row.cell 0, h.row.cell 1, h.row.cell 2, h.row.cell 3, h.row.cell 4, h.row.cell 5, h.row.cell 6, h.row.cell 7, h.row.cell 8, h.row.cell 9, h.row.cell 10⟩
end
/-- Which acts the law passes over. -/
def skA (a : Aq) : Bool := (a.d == 1 && decide (5 < a.n)) || a.d == 8

end Go.Proofs.Ythmombgogmgobaa
