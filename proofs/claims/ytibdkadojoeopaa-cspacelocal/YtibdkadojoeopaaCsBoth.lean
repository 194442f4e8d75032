/-
  The program's space and the document's side by side ('BoAt'): what one's call leaves of the other. No statement is proved here.
-/
import Derived.Test.YtibdkadojoeopaaCsRefL
import Derived.Test.YtibdkadojoeopaaCsRefD
namespace Go.Proofs.Ytibdkadojoeopaa
open Go.RowKit Go.Maps Go.WideMaps

structure BoAt (w : World) (p : Pb) (q : Qb) (L M : List Nd) : Prop where
  pr : IsP w p L
  rf : IsQ w q M
  ap : ∀ k, p.s L k → ¬ q.s M k

def boU (p : Pb) (q : Qb) (L M : List Nd) : Nat → Prop := fun k => p.s L k ∨ q.s M k

section
variable {w : World} {p : Pb} {q : Qb} {L M : List Nd}
theorem BoAt.keep {S : Nat → Prop} {w' : World} (h : BoAt w p q L M) (f : Fr S w w') (hs : ∀ k, boU p q L M k → ¬ S k) : BoAt w' p q L M := ⟨h.pr.keep f (fun k hk => hs k (Or.inl hk)), h.rf.keep f (fun k hk => hs k (Or.inr hk)), h.ap⟩
theorem BoAt.keep0 {w' : World} (h : BoAt w p q L M) (f : Fr none' w w') : BoAt w' p q L M := h.keep f (fun _ _ h => h)
theorem BoAt.lt (h : BoAt w p q L M) (k : Nat) (hk : boU p q L M k) : k < w.heap.size := hk.elim (h.pr.lt k) (h.rf.lt k)

theorem BoAt.stepP {w' : World} {L' : List Nd} (h : BoAt w p q L M) (c : Chg w p L w' L') : ∃ p' : Pb, p'.b = p.b ∧ BoAt w' p' q L' M ∧ Fr (boU p q L M) w w' ∧ ∀ k, boU p' q L' M k → boU p q L M k ∨ w.heap.size ≤ k := by
  obtain ⟨p', e, h1, f, hn⟩ := c
  refine ⟨p', e, ⟨h1, h.rf.keep f (fun k hk hp => h.ap k hp hk), fun k hk hq => ?_⟩, f.mono (fun k _ hk => Or.inl hk), fun k hk => ?_⟩
  · rcases hn k hk with h2 | h2
    · exact h.ap k h2 hq
    · have := h.rf.lt k hq; omega
  · rcases hk with hk | hk
    · exact (hn k hk).imp (fun h => Or.inl h) (fun h => h)
    · exact Or.inl (Or.inr hk)

theorem BoAt.stepQ {w' : World} {M' : List Nd} (h : BoAt w p q L M) (c : ChgQ w q M w' M') : ∃ q' : Qb, q'.b = q.b ∧ BoAt w' p q' L M' ∧ Fr (boU p q L M) w w' ∧ ∀ k, boU p q' L M' k → boU p q L M k ∨ w.heap.size ≤ k := by
  obtain ⟨q', e, h1, f, hn⟩ := c
  refine ⟨q', e, ⟨h.pr.keep f (fun k hk hp => h.ap k hk hp), h1, fun k hk hq => ?_⟩, f.mono (fun k _ hk => Or.inr hk), fun k hk => ?_⟩
  · rcases hn k hq with h2 | h2
    · exact h.ap k hk h2
    · have := h.pr.lt k hk; omega
  · rcases hk with hk | hk
    · exact Or.inl (Or.inl hk)
    · exact (hn k hk).imp (fun h => Or.inr h) (fun h => h)
end

/-- What a call of both leaves. -/
def ChgB (w : World) (p : Pb) (q : Qb) (L : List Nd) (w' : World) (L' : List Nd) : Prop := ∃ (p' : Pb) (q' : Qb), p'.b = p.b ∧ q'.b = q.b ∧ BoAt w' p' q' L' L' ∧ Fr (boU p q L L) w w' ∧ ∀ k, boU p' q' L' L' k → boU p q L L k ∨ w.heap.size ≤ k

theorem ChgB.same {w w' : World} {p : Pb} {q : Qb} {L : List Nd} (h : BoAt w p q L L) (f : Fr none' w w') : ChgB w p q L w' L := ⟨p, q, rfl, rfl, h.keep0 f, f.mono (fun _ _ h => h.elim), fun _ h => Or.inl h⟩

/-- Fr by a set of w's, then of w1's, where what is new is new. -/
theorem fr_two {S T : Nat → Prop} {w w1 w2 : World} (f : Fr S w w1) (g : Fr T w1 w2) (h : ∀ k, T k → S k ∨ w.heap.size ≤ k) : Fr S w w2 :=
  ⟨g.os.trans f.os, g.tape.trans f.tape, g.output.trans f.output, Nat.le_trans f.size g.size, fun i hi hn => (g.block i (Nat.lt_of_lt_of_le hi f.size) (fun e => by rcases h i e with h | h; exact hn h; omega)).trans (f.block i hi hn)⟩

/-- The program's call, then the document's. -/
theorem chgB_two {w w0 w1 w2 : World} {p p1 : Pb} {q : Qb} {L L' : List Nd} (f0 : Fr none' w w0) (e1 : p1.b = p.b) (f1 : Fr (boU p q L L) w0 w1) (n1 : ∀ k, boU p1 q L' L k → boU p q L L k ∨ w0.heap.size ≤ k) (h1 : BoAt w1 p1 q L' L) (c : ChgQ w1 q L w2 L') : ChgB w p q L w2 L' := by
  obtain ⟨q', e2, h2, f2, n2⟩ := h1.stepQ c
  have s0 := f0.size
  have s1 := f1.size
  refine ⟨p1, q', e1, e2, h2, fr_two (f0.mono (fun _ _ h => h.elim)) (fr_two f1 f2 n1) (fun k hk => Or.inl hk), fun k hk => ?_⟩
  rcases n2 k hk with h | h
  · rcases n1 k h with h | h
    · exact Or.inl h
    · right; omega
  · right; omega

/-! ### acts -/
structure Ac where
  op : Int
  id : Int
  rx : Int
  at' : Rf
  c : K
  x : Nat
  dp : Int

structure OkA (a : Ac) : Prop where
  id : I64 a.id
  n : I64 a.at'.n
  r : I64 a.c.r
  x : a.x < 4294967296

def acV (a : Ac) : Array Value := #[.int .i64 a.op, .int .i64 a.id, .int .i64 a.rx, .int .i64 a.at'.n, .int .i64 a.at'.i, .int .i64 a.c.k, .int .i64 a.c.o, .int .i64 a.c.r, .int .i64 a.c.b, .int .i64 a.c.x, .int .i64 a.c.g, .int .i64 a.c.n, .bool a.c.d, .int .u32 (a.x : Int), .int .i64 a.dp]

def stepS (L : List Nd) (a : Ac) : List Nd := if a.op = 1 then addS L a.id a.rx else if a.op = 2 then drS L a.id else if a.op = 3 then putS L a.at' a.c else L

theorem good_step {L : List Nd} (g : GoodL L) (a : Ac) : GoodL (stepS L a) := by
  unfold stepS
  split
  · exact good_add g _ _
  split
  · exact good_dr g _
  split
  · exact good_put g _ _
  · exact g

theorem ac_cells {w : World} {b : Nat} {a : Ac} {t : TypeId} (h : Row w b (acV a) t) :
    (w.cell? ⟨b, 0, none⟩ = some (.int .i64 a.op) ∧ w.cell? ⟨b, 1, none⟩ = some (.int .i64 a.id) ∧ w.cell? ⟨b, 2, none⟩ = some (.int .i64 a.rx) ∧ w.cell? ⟨b, 3, none⟩ = some (.int .i64 a.at'.n) ∧ w.cell? ⟨b, 4, none⟩ = some (.int .i64 a.at'.i)) ∧
    (w.cell? ⟨b, 5, none⟩ = some (.int .i64 a.c.k) ∧ w.cell? ⟨b, 6, none⟩ = some (.int .i64 a.c.o) ∧ w.cell? ⟨b, 7, none⟩ = some (.int .i64 a.c.r) ∧ w.cell? ⟨b, 8, none⟩ = some (.int .i64 a.c.b) ∧ w.cell? ⟨b, 9, none⟩ = some (.int .i64 a.c.x) ∧ w.cell? ⟨b, 10, none⟩ = some (.int .i64 a.c.g) ∧ w.cell? ⟨b, 11, none⟩ = some (.int .i64 a.c.n) ∧ w.cell? ⟨b, 12, none⟩ = some (.bool a.c.d)) ∧
    w.cell? ⟨b, 13, none⟩ = some (.int .u32 (a.x : Int)) ∧ w.cell? ⟨b, 14, none⟩ = some (.int .i64 a.dp) :=
  ⟨⟨h.cell 0, h.cell 1, h.cell 2, h.cell 3, h.cell 4⟩, ⟨h.cell 5, h.cell 6, h.cell 7, h.cell 8, h.cell 9, h.cell 10, h.cell 11, h.cell 12⟩, h.cell 13, h.cell 14⟩

theorem eq_ref (n i n' i' : Int) (w : World) : (binOp .eql 32 (.agg #[.int .i64 n, .int .i64 i]) (.agg #[.int .i64 n', .int .i64 i'])).run Try.prog w = .ok (.bool (eqR ⟨n, i⟩ ⟨n', i'⟩)) w := by
  simp [go_sem, eqR]
  repeat' split
  all_goals simp_all

theorem neq_ref (n i n' i' : Int) (w : World) : (binOp .neq 32 (.agg #[.int .i64 n, .int .i64 i]) (.agg #[.int .i64 n', .int .i64 i'])).run Try.prog w = .ok (.bool (!eqR ⟨n, i⟩ ⟨n', i'⟩)) w := by
  simp [go_sem, eqR]
  repeat' split
  all_goals simp_all

end Go.Proofs.Ytibdkadojoeopaa
