/-
  Memories and controllers, the program's and the document's, side by side ('BoAt', 'IsBo'), and what one call leaves of them. No statement is proved here.
-/
import Derived.Test.YthmombgogmgobaaIoRefT
import Derived.Test.YthmombgogmgobaaTwin
import Derived.Test.YthmombgogmgobaaRefMem
import Derived.Test.YthmombgogmgobaaPteMem
namespace Go.Proofs.Ythmombgogmgobaa
open Go.RowKit

/-- The struct's four cells. -/
structure XIs (w : World) (x pm bi pr ji : Nat) : Prop where
  c0 : w.cell? ⟨x, 0, none⟩ = some (.pointer (some ⟨pm, 0, none⟩))
  c1 : w.cell? ⟨x, 1, none⟩ = some (.pointer (some ⟨bi, 0, none⟩))
  c2 : w.cell? ⟨x, 2, none⟩ = some (.pointer (some ⟨pr, 0, none⟩))
  c3 : w.cell? ⟨x, 3, none⟩ = some (.pointer (some ⟨ji, 0, none⟩))
theorem XIs.keep {S : Nat → Prop} {w w' : World} {x pm bi pr ji : Nat} (h : XIs w x pm bi pr ji) (f : Fr S w w') (hs : ¬ S x) : XIs w' x pm bi pr ji :=
  ⟨cell_keep f h.c0 hs, cell_keep f h.c1 hs, cell_keep f h.c2 hs, cell_keep f h.c3 hs⟩

structure BoAt (w : World) (x pm bm pr br bi ji : Nat) (O Q : Nat → Prop) (bs bs' : List UInt8) (S S' : Io) : Prop where
  row : XIs w x pm bi pr ji
  ram : IsRam w pm bm 16 bs
  ref : IsRef w pr br 16 bs'
  io : IsIo w bi O S
  ri : IsRi w ji Q S'
  ne : x ≠ pm ∧ x ≠ bm ∧ x ≠ pr ∧ x ≠ br ∧ pm ≠ br ∧ pr ≠ bm ∧ bm ≠ br
  no : ∀ k, O k → k ≠ x ∧ k ≠ pm ∧ k ≠ bm ∧ k ≠ pr ∧ k ≠ br ∧ ¬ Q k
  nq : ∀ k, Q k → k ≠ x ∧ k ≠ pm ∧ k ≠ bm ∧ k ≠ pr ∧ k ≠ br
def boU (x pm bm pr br : Nat) (O Q : Nat → Prop) : Nat → Prop := fun k => k = x ∨ k = pm ∨ k = bm ∨ k = pr ∨ k = br ∨ O k ∨ Q k

/-- What has turned is U's; what it is now is U's, or new. -/
def ChgU (w : World) (U : Nat → Prop) (w' : World) (U' : Nat → Prop) : Prop := Fr U w w' ∧ ∀ k, U' k → U k ∨ w.heap.size ≤ k
theorem ChgU.refl (w : World) (U : Nat → Prop) : ChgU w U w U := ⟨Fr.refl _ _, fun _ h => Or.inl h⟩
theorem ChgU.trans {w w1 w2 : World} {U U1 U2 : Nat → Prop} (a : ChgU w U w1 U1) (b : ChgU w1 U1 w2 U2) : ChgU w U w2 U2 := by
  obtain ⟨f, ho⟩ := a
  obtain ⟨g, k⟩ := b
  refine ⟨⟨g.os.trans f.os, g.tape.trans f.tape, g.output.trans f.output, Nat.le_trans f.size g.size, fun i hi hn => (g.block i (Nat.lt_of_lt_of_le hi f.size) (fun e => ?_)).trans (f.block i hi hn)⟩, fun i hi => ?_⟩
  · rcases ho i e with e | e
    · exact hn e
    · omega
  · rcases k i hi with e | e
    · exact ho i e
    · exact Or.inr (Nat.le_trans f.size e)
theorem ChgU.none {w w' : World} {U : Nat → Prop} (f : Fr none' w w') : ChgU w U w' U := ⟨f.mono (fun _ _ h => h.elim), fun _ h => Or.inl h⟩

section
variable {w w' : World} {x pm bm pr br bi ji : Nat} {O Q : Nat → Prop} {bs bs' : List UInt8} {S S' : Io}

theorem BoAt.lt (h : BoAt w x pm bm pr br bi ji O Q bs bs' S S') (k : Nat) (hk : boU x pm bm pr br O Q k) : k < w.heap.size := by
  rcases hk with rfl | rfl | rfl | rfl | rfl | hk | hk
  · exact cell_lt h.row.c0
  · exact h.ram.head.lt
  · exact h.ram.row.lt
  · exact h.ref.head.lt
  · exact h.ref.row.lt
  · exact h.io.lt k hk
  · exact h.ri.lt k hk
theorem BoAt.keep {T : Nat → Prop} (h : BoAt w x pm bm pr br bi ji O Q bs bs' S S') (f : Fr T w w') (hs : ∀ k, boU x pm bm pr br O Q k → ¬ T k) : BoAt w' x pm bm pr br bi ji O Q bs bs' S S' :=
  ⟨h.row.keep f (hs _ (Or.inl rfl)), h.ram.keep f (hs _ (Or.inr (Or.inl rfl))) (hs _ (Or.inr (Or.inr (Or.inl rfl)))), h.ref.keep f (hs _ (Or.inr (Or.inr (Or.inr (Or.inl rfl))))) (hs _ (Or.inr (Or.inr (Or.inr (Or.inr (Or.inl rfl)))))),
    h.io.keep f (fun k hk => hs k (Or.inr (Or.inr (Or.inr (Or.inr (Or.inr (Or.inl hk))))))), h.ri.keep f (fun k hk => hs k (Or.inr (Or.inr (Or.inr (Or.inr (Or.inr (Or.inr hk))))))), h.ne, h.no, h.nq⟩
theorem BoAt.keep0 (h : BoAt w x pm bm pr br bi ji O Q bs bs' S S') (f : Fr none' w w') : BoAt w' x pm bm pr br bi ji O Q bs bs' S S' := h.keep f (fun _ _ h => h)
theorem BoAt.xlt (h : BoAt w x pm bm pr br bi ji O Q bs bs' S S') : x < w.heap.size ∧ pm < w.heap.size ∧ bm < w.heap.size ∧ pr < w.heap.size ∧ br < w.heap.size :=
  ⟨h.lt _ (Or.inl rfl), h.lt _ (Or.inr (Or.inl rfl)), h.lt _ (Or.inr (Or.inr (Or.inl rfl))), h.lt _ (Or.inr (Or.inr (Or.inr (Or.inl rfl)))), h.lt _ (Or.inr (Or.inr (Or.inr (Or.inr (Or.inl rfl)))))⟩

theorem boU_o {k : Nat} (h : O k) : boU x pm bm pr br O Q k := Or.inr (Or.inr (Or.inr (Or.inr (Or.inr (Or.inl h)))))
theorem boU_q {k : Nat} (h : Q k) : boU x pm bm pr br O Q k := Or.inr (Or.inr (Or.inr (Or.inr (Or.inr (Or.inr h)))))
theorem boU_bm : boU x pm bm pr br O Q bm := Or.inr (Or.inr (Or.inl rfl))
theorem boU_br : boU x pm bm pr br O Q br := Or.inr (Or.inr (Or.inr (Or.inr (Or.inl rfl))))
theorem boU_mono {O' : Nat → Prop} {n : Nat} (ho : ∀ k, O' k → O k ∨ n ≤ k) (k : Nat) (h : boU x pm bm pr br O' Q k) : boU x pm bm pr br O Q k ∨ n ≤ k := by
  rcases h with h | h | h | h | h | h | h
  · exact Or.inl (Or.inl h)
  · exact Or.inl (Or.inr (Or.inl h))
  · exact Or.inl (Or.inr (Or.inr (Or.inl h)))
  · exact Or.inl (Or.inr (Or.inr (Or.inr (Or.inl h))))
  · exact Or.inl (Or.inr (Or.inr (Or.inr (Or.inr (Or.inl h)))))
  · rcases ho k h with h | h
    · exact Or.inl (boU_o h)
    · exact Or.inr h
  · exact Or.inl (boU_q h)
theorem boU_mono' {Q' : Nat → Prop} {n : Nat} (ho : ∀ k, Q' k → Q k ∨ n ≤ k) (k : Nat) (h : boU x pm bm pr br O Q' k) : boU x pm bm pr br O Q k ∨ n ≤ k := by
  rcases h with h | h | h | h | h | h | h
  · exact Or.inl (Or.inl h)
  · exact Or.inl (Or.inr (Or.inl h))
  · exact Or.inl (Or.inr (Or.inr (Or.inl h)))
  · exact Or.inl (Or.inr (Or.inr (Or.inr (Or.inl h))))
  · exact Or.inl (Or.inr (Or.inr (Or.inr (Or.inr (Or.inl h)))))
  · exact Or.inl (boU_o h)
  · rcases ho k h with h | h
    · exact Or.inl (boU_q h)
    · exact Or.inr h

/-- The program's access. -/
theorem BoAt.stepD {bs1 : List UInt8} {S1 : Io} (h : BoAt w x pm bm pr br bi ji O Q bs bs' S S') (c : Dmad w bi O pm bm 16 bs1 S1 w') :
    ∃ O', BoAt w' x pm bm pr br bi ji O' Q bs1 bs' S1 S' ∧ ChgU w (boU x pm bm pr br O Q) w' (boU x pm bm pr br O' Q) := by
  obtain ⟨f, r, O', hi, ho⟩ := c
  have hx := h.xlt
  have nx : ∀ k, k ≠ bm → ¬ O k → ¬ (O k ∨ k = bm) := fun k h1 h2 h3 => by
    rcases h3 with h3 | h3
    · exact h2 h3
    · exact h1 h3
  refine ⟨O', ⟨h.row.keep f (nx _ h.ne.2.1 (fun e => (h.no _ e).1 rfl)), r, h.ref.keep f (nx _ h.ne.2.2.2.2.2.1 (fun e => (h.no _ e).2.2.2.1 rfl)) (nx _ (Ne.symm h.ne.2.2.2.2.2.2) (fun e => (h.no _ e).2.2.2.2.1 rfl)), hi,
    h.ri.keep f (fun k hk e => by
      rcases e with e | e
      · exact (h.no k e).2.2.2.2.2 hk
      · exact (h.nq k hk).2.2.1 e), h.ne, fun k hk => ?_, h.nq⟩, f.mono (fun k _ e => by
      rcases e with e | e
      · exact boU_o e
      · rw [e]; exact boU_bm), boU_mono ho⟩
  rcases ho k hk with e | e
  · exact h.no k e
  · refine ⟨by omega, by omega, by omega, by omega, by omega, fun hq => ?_⟩
    have := h.ri.lt k hq
    omega
theorem BoAt.stepI {S1 : Io} (h : BoAt w x pm bm pr br bi ji O Q bs bs' S S') (c : ChgI w bi O S1 w') :
    ∃ O', BoAt w' x pm bm pr br bi ji O' Q bs bs' S1 S' ∧ ChgU w (boU x pm bm pr br O Q) w' (boU x pm bm pr br O' Q) :=
  h.stepD (Dmad.chg h.ram (fun e => (h.no _ e).2.1 rfl) (fun e => (h.no _ e).2.2.1 rfl) c)
/-- The document's access. -/
theorem BoAt.stepE {bs1 : List UInt8} {S1 : Io} (h : BoAt w x pm bm pr br bi ji O Q bs bs' S S') (c : DmadR w ji Q pr br 16 bs1 S1 w') :
    ∃ Q', BoAt w' x pm bm pr br bi ji O Q' bs bs1 S S1 ∧ ChgU w (boU x pm bm pr br O Q) w' (boU x pm bm pr br O Q') := by
  obtain ⟨f, r, Q', hi, ho⟩ := c
  have hx := h.xlt
  have nx : ∀ k, k ≠ br → ¬ Q k → ¬ (Q k ∨ k = br) := fun k h1 h2 h3 => by
    rcases h3 with h3 | h3
    · exact h2 h3
    · exact h1 h3
  refine ⟨Q', ⟨h.row.keep f (nx _ h.ne.2.2.2.1 (fun e => (h.nq _ e).1 rfl)), h.ram.keep f (nx _ h.ne.2.2.2.2.1 (fun e => (h.nq _ e).2.1 rfl)) (nx _ h.ne.2.2.2.2.2.2 (fun e => (h.nq _ e).2.2.1 rfl)), r,
    h.io.keep f (fun k hk e => by
      rcases e with e | e
      · exact (h.no k hk).2.2.2.2.2 e
      · exact (h.no k hk).2.2.2.2.1 e), hi, h.ne, fun k hk => ?_, fun k hk => ?_⟩, f.mono (fun k _ e => by
      rcases e with e | e
      · exact boU_q e
      · rw [e]; exact boU_br), boU_mono' ho⟩
  · have a := h.no k hk
    refine ⟨a.1, a.2.1, a.2.2.1, a.2.2.2.1, a.2.2.2.2.1, fun hq => ?_⟩
    rcases ho k hq with e | e
    · exact a.2.2.2.2.2 e
    · have := h.io.lt k hk
      omega
  · rcases ho k hk with e | e
    · exact h.nq k e
    · exact ⟨by omega, by omega, by omega, by omega, by omega⟩
theorem BoAt.stepR {S1 : Io} (h : BoAt w x pm bm pr br bi ji O Q bs bs' S S') (c : ChgR w ji Q S1 w') :
    ∃ Q', BoAt w' x pm bm pr br bi ji O Q' bs bs' S S1 ∧ ChgU w (boU x pm bm pr br O Q) w' (boU x pm bm pr br O Q') :=
  h.stepE (DmadR.chg h.ref (fun e => (h.nq _ e).2.2.2.1 rfl) (fun e => (h.nq _ e).2.2.2.2 rfl) c)
/-- The program's memory written. -/
theorem BoAt.stepM {bs1 : List UInt8} (h : BoAt w x pm bm pr br bi ji O Q bs bs' S S') (f : Fr (at' bm) w w') (r : IsRam w' pm bm 16 bs1) :
    BoAt w' x pm bm pr br bi ji O Q bs1 bs' S S' ∧ ChgU w (boU x pm bm pr br O Q) w' (boU x pm bm pr br O Q) :=
  ⟨⟨h.row.keep f h.ne.2.1, r, h.ref.keep f h.ne.2.2.2.2.2.1 (Ne.symm h.ne.2.2.2.2.2.2), h.io.keep f (fun k hk => (h.no k hk).2.2.1), h.ri.keep f (fun k hk => (h.nq k hk).2.2.1), h.ne, h.no, h.nq⟩, f.mono (fun k _ e => by rw [(e : k = bm)]; exact boU_bm), fun _ h => Or.inl h⟩
/-- The document's memory written. -/
theorem BoAt.stepN {bs1 : List UInt8} (h : BoAt w x pm bm pr br bi ji O Q bs bs' S S') (f : Fr (at' br) w w') (r : IsRef w' pr br 16 bs1) :
    BoAt w' x pm bm pr br bi ji O Q bs bs1 S S' ∧ ChgU w (boU x pm bm pr br O Q) w' (boU x pm bm pr br O Q) :=
  ⟨⟨h.row.keep f h.ne.2.2.2.1, h.ram.keep f h.ne.2.2.2.2.1 h.ne.2.2.2.2.2.2, r, h.io.keep f (fun k hk => (h.no k hk).2.2.2.2.1), h.ri.keep f (fun k hk => (h.nq k hk).2.2.2.2), h.ne, h.no, h.nq⟩, f.mono (fun k _ e => by rw [(e : k = br)]; exact boU_br), fun _ h => Or.inl h⟩
end

/-- Both alike, all blocks just U. -/
def IsBo (w : World) (x : Nat) (U : Nat → Prop) (bs : List UInt8) (S : Io) : Prop := ∃ pm bm pr br bi ji O Q, BoAt w x pm bm pr br bi ji O Q bs bs S S ∧ U = boU x pm bm pr br O Q
theorem IsBo.keep {T : Nat → Prop} {w w' : World} {x : Nat} {U : Nat → Prop} {bs : List UInt8} {S : Io} (h : IsBo w x U bs S) (f : Fr T w w') (hs : ∀ k, U k → ¬ T k) : IsBo w' x U bs S := by
  obtain ⟨pm, bm, pr, br, bi, ji, O, Q, h, rfl⟩ := h
  exact ⟨pm, bm, pr, br, bi, ji, O, Q, h.keep f hs, rfl⟩
theorem IsBo.keep0 {w w' : World} {x : Nat} {U : Nat → Prop} {bs : List UInt8} {S : Io} (h : IsBo w x U bs S) (f : Fr none' w w') : IsBo w' x U bs S := h.keep f (fun _ _ h => h)
theorem IsBo.lt {w : World} {x : Nat} {U : Nat → Prop} {bs : List UInt8} {S : Io} (h : IsBo w x U bs S) (k : Nat) (hk : U k) : k < w.heap.size := by
  obtain ⟨pm, bm, pr, br, bi, ji, O, Q, h, rfl⟩ := h
  exact h.lt k hk
theorem IsBo.ok {w : World} {x : Nat} {U : Nat → Prop} {bs : List UInt8} {S : Io} (h : IsBo w x U bs S) : IoOk S := by
  obtain ⟨pm, bm, pr, br, bi, ji, O, Q, h, rfl⟩ := h
  exact h.io.ok
theorem IsBo.len {w : World} {x : Nat} {U : Nat → Prop} {bs : List UInt8} {S : Io} (h : IsBo w x U bs S) : bs.length = 1024 := by
  obtain ⟨pm, bm, pr, br, bi, ji, O, Q, h, rfl⟩ := h
  exact h.ram.len

/-! ### entries and acts that came in -/
/-- An entry that is laid: table, index, the entry's four parts. -/
structure Pq where (t i : Int) (v l : Bool) (r f : Int)
/-- An act. -/
structure Aq where (d s n : Int) (wr : Bool) (b : Nat) (q : Pq)
structure PqIs (w : World) (b o : Nat) (q : Pq) : Prop where
  c0 : w.cell? ⟨b, o, none⟩ = some (.int .i64 q.t)
  c1 : w.cell? ⟨b, o + 1, none⟩ = some (.int .i64 q.i)
  c2 : w.cell? ⟨b, o + 2, none⟩ = some (.bool q.v)
  c3 : w.cell? ⟨b, o + 3, none⟩ = some (.bool q.l)
  c4 : w.cell? ⟨b, o + 4, none⟩ = some (.int .i64 q.r)
  c5 : w.cell? ⟨b, o + 5, none⟩ = some (.int .i64 q.f)
theorem PqIs.keep {S : Nat → Prop} {w w' : World} {b o : Nat} {q : Pq} (h : PqIs w b o q) (k : Fr S w w') (hs : ¬ S b) : PqIs w' b o q :=
  ⟨cell_keep k h.c0 hs, cell_keep k h.c1 hs, cell_keep k h.c2 hs, cell_keep k h.c3 hs, cell_keep k h.c4 hs, cell_keep k h.c5 hs⟩
structure AqIs (w : World) (b o : Nat) (a : Aq) : Prop where
  c0 : w.cell? ⟨b, o, none⟩ = some (.int .i64 a.d)
  c1 : w.cell? ⟨b, o + 1, none⟩ = some (.int .i64 a.s)
  c2 : w.cell? ⟨b, o + 2, none⟩ = some (.int .i64 a.n)
  c3 : w.cell? ⟨b, o + 3, none⟩ = some (.bool a.wr)
  c4 : w.cell? ⟨b, o + 4, none⟩ = some (.int .u8 (a.b : Int))
  q : PqIs w b (o + 5) a.q
  small : a.b < 256
theorem AqIs.keep {S : Nat → Prop} {w w' : World} {b o : Nat} {q : Aq} (h : AqIs w b o q) (k : Fr S w w') (hs : ¬ S b) : AqIs w' b o q :=
  ⟨cell_keep k h.c0 hs, cell_keep k h.c1 hs, cell_keep k h.c2 hs, cell_keep k h.c3 hs, cell_keep k h.c4 hs, h.q.keep k hs, h.small⟩
def Pqs (w : World) (a0 : Option Addr) (len : Nat) (P : Nat → Pq) : Prop := ∀ k, k < len → ∃ b o, a0 = some ⟨b, o, none⟩ ∧ PqIs w b (o + k * 6) (P k)
def Aqs (w : World) (a0 : Option Addr) (len : Nat) (P : Nat → Aq) : Prop := ∀ k, k < len → ∃ b o, a0 = some ⟨b, o, none⟩ ∧ AqIs w b (o + k * 11) (P k)
theorem Pqs.keep {w w' : World} {a0 : Option Addr} {len : Nat} {P : Nat → Pq} (h : Pqs w a0 len P) (f : Fr none' w w') : Pqs w' a0 len P := fun k hk => by
  obtain ⟨b, o, e, q⟩ := h k hk
  exact ⟨b, o, e, q.keep f (fun h => h)⟩
theorem Aqs.keep {w w' : World} {a0 : Option Addr} {len : Nat} {P : Nat → Aq} (h : Aqs w a0 len P) (f : Fr none' w w') : Aqs w' a0 len P := fun k hk => by
  obtain ⟨b, o, e, q⟩ := h k hk
  exact ⟨b, o, e, q.keep f (fun h => h)⟩
def Pq.a (q : Pq) : Array Value := #[.int .i64 q.t, .int .i64 q.i, .bool q.v, .bool q.l, .int .i64 q.r, .int .i64 q.f]
def Aq.a (a : Aq) : Array Value := #[.int .i64 a.d, .int .i64 a.s, .int .i64 a.n, .bool a.wr, .int .u8 (a.b : Int), .int .i64 a.q.t, .int .i64 a.q.i, .bool a.q.v, .bool a.q.l, .int .i64 a.q.r, .int .i64 a.q.f]
theorem pq_row {w : World} {b : Nat} {q : Pq} {t : TypeId} (h : Row w b #[.int .i64 q.t, .int .i64 q.i, .bool q.v, .bool q.l, .int .i64 q.r, .int .i64 q.f] t) : PqIs w b 0 q := ⟨h.cell 0, h.cell 1, h.cell 2, h.cell 3, h.cell 4, h.cell 5⟩
theorem aq_row {w : World} {b : Nat} {a : Aq} {t : TypeId} (hb : a.b < 256) (h : Row w b #[.int .i64 a.d, .int .i64 a.s, .int .i64 a.n, .bool a.wr, .int .u8 (a.b : Int), .int .i64 a.q.t, .int .i64 a.q.i, .bool a.q.v, .bool a.q.l, .int .i64 a.q.r, .int .i64 a.q.f] t) : AqIs w b 0 a := ⟨h.cell 0, h.cell 1, h.cell 2, h.cell 3, h.cell 4, ⟨h.cell 5, h.cell 6, h.cell 7, h.cell 8, h.cell 9, h.cell 10⟩, hb⟩

def putQ (bs : List UInt8) (q : Pq) : List UInt8 := putB bs q.t q.i 16 q.v q.l q.r q.f

set_option maxHeartbeats 2000000 in
theorem ioput_at (w : World) (x pm bm pr br bi ji : Nat) (O Q : Nat → Prop) (bs : List UInt8) (S S' : Io) (q : Pq) (h : BoAt w x pm bm pr br bi ji O Q bs bs S S') :
    Calls Try.prog 22 #[.pointer (some ⟨x, 0, none⟩), .agg #[.int .i64 q.t, .int .i64 q.i, .bool q.v, .bool q.l, .int .i64 q.r, .int .i64 q.f]] w fun e w' => (∃ y, e = .returned y) ∧ BoAt w' x pm bm pr br bi ji O Q (putQ bs q) (putQ bs q) S S' ∧ ChgU w (boU x pm bm pr br O Q) w' (boU x pm bm pr br O Q) := by
  have F0 := (Fr.refl none' w).alloc (.cells #[.int .i64 q.t, .int .i64 q.i, .bool q.v, .bool q.l, .int .i64 q.r, .int .i64 q.f] 31)
  have R0 := row_alloc w #[.int .i64 q.t, .int .i64 q.i, .bool q.v, .bool q.l, .int .i64 q.r, .int .i64 q.f] 31
  have h0 := h.keep0 F0
  have hbm : bm < w.heap.size ∧ br < w.heap.size := ⟨h.xlt.2.2.1, h.xlt.2.2.2.2⟩
  go_enter Try.func22, Try.ntmps22
  go_upto_region 1 with fail
  obtain ⟨W, hW⟩ : ∃ W, W = w.alloc (.cells #[.int .i64 q.t, .int .i64 q.i, .bool q.v, .bool q.l, .int .i64 q.r, .int .i64 q.f] 31) := ⟨_, rfl⟩
  obtain ⟨A, hA⟩ : ∃ A, A = w.heap.size := ⟨_, rfl⟩
  rw [← hW] at F0 R0 h0 ⊢
  rw [← hA] at R0 ⊢
  have HA : Hid (A ≠ bm ∧ A ≠ br) := (show _ ∧ _ by omega)
  have rX := h0.row
  have pk := pq_row R0
  clear hW hA R0 h hbm
  have hD := h0.keep0 (Fr.refl none' W).drew
  go_region_held3 (fun w' => w'.cell? ⟨x, 0, none⟩ = some (.pointer (some ⟨pm, 0, none⟩)) ∧ w'.cell? ⟨A, 0, none⟩ = some (.int .i64 q.t) ∧ w'.cell? ⟨A, 1, none⟩ = some (.int .i64 q.i) ∧ w'.cell? ⟨A, 2, none⟩ = some (.bool q.v) ∧ w'.cell? ⟨A, 3, none⟩ = some (.bool q.l) ∧ w'.cell? ⟨A, 4, none⟩ = some (.int .i64 q.r) ∧ w'.cell? ⟨A, 5, none⟩ = some (.int .i64 q.f)) (first | with_reducible exact ⟨rX.c0, pk.c0, pk.c1, pk.c2, pk.c3, pk.c4, pk.c5⟩ | exact ⟨rX.c0, pk.c0, pk.c1, pk.c2, pk.c3, pk.c4, pk.c5⟩) (first | (go_at_call 52; refine (put_any _ _ _ _ _ _ _ _ _ _ _ hD.ram).mono ?_; rintro e w1 ⟨rfl, f1, q1⟩; replace pk := pk.keep (io_undrew f1) HA.out.1; replace rX := rX.keep (io_undrew f1) hD.ne.2.1))
  obtain ⟨h1, u1⟩ := hD.stepM f1 q1
  have F1 : ChgU w (boU x pm bm pr br O Q) w1 (boU x pm bm pr br O Q) := (ChgU.none F0.drew).trans u1
  clear f1 q1 u1 hD h0 F0
  go_wp2_with fail
  have hD := h1.keep0 (Fr.refl none' w1).drew
  go_region_held3 (fun w' => w'.cell? ⟨x, 2, none⟩ = some (.pointer (some ⟨pr, 0, none⟩)) ∧ w'.cell? ⟨A, 0, none⟩ = some (.int .i64 q.t) ∧ w'.cell? ⟨A, 1, none⟩ = some (.int .i64 q.i) ∧ w'.cell? ⟨A, 2, none⟩ = some (.bool q.v) ∧ w'.cell? ⟨A, 3, none⟩ = some (.bool q.l) ∧ w'.cell? ⟨A, 4, none⟩ = some (.int .i64 q.r) ∧ w'.cell? ⟨A, 5, none⟩ = some (.int .i64 q.f)) (first | with_reducible exact ⟨rX.c2, pk.c0, pk.c1, pk.c2, pk.c3, pk.c4, pk.c5⟩ | exact ⟨rX.c2, pk.c0, pk.c1, pk.c2, pk.c3, pk.c4, pk.c5⟩) (first | (go_at_call 53; refine (rput_any _ _ _ _ _ _ _ _ _ _ _ hD.ref).mono ?_; rintro e w2 ⟨rfl, f2, q2⟩; replace pk := pk.keep (io_undrew f2) HA.out.2; replace rX := rX.keep (io_undrew f2) hD.ne.2.2.2.1))
  obtain ⟨h2, u2⟩ := hD.stepN f2 q2
  have F2 : ChgU w (boU x pm bm pr br O Q) w2 (boU x pm bm pr br O Q) := (F1.trans (ChgU.none (Fr.refl none' w1).drew)).trans u2
  clear f2 q2 u2 hD h1 F1
  go_wp2_with fail
  refine io_void rfl rfl (fun y => ?_)
  exact ⟨⟨y, rfl⟩, h2, F2⟩

end Go.Proofs.Ythmombgogmgobaa
