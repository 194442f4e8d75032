/-
  The program's virtual processors and the document's beside each other; viceroylaw18.does over the translation. No statement is proved here.
-/
import Derived.Test.YthkieoedidpkaaaVcRefD
import Derived.Test.YthkieoedidpkaaaVcRefE
import Derived.Test.YthkieoedidpkaaaVcRefF
import Derived.Test.YthkieoedidpkaaaVcRefG
import Derived.Test.YthkieoedidpkaaaVcOpen
namespace Go.Proofs.Ythkieoedidpkaaa
open Go.RowKit Go.Maps Go.WideMaps

/-- Both, newer than w0; none of their blocks is O's, nor the other's. -/
structure Bx (w0 w : World) (p : Pp) (q : Qd) (S R : Vp) (O : Nat → Prop) : Prop where
  vx : Vx w0 w p S O
  d : IsD w q R
  qhi : ∀ k, q.s k → w0.heap.size ≤ k ∧ ¬ O k ∧ ¬ p.s S k
def ackI (S : Vp) (i : Int) : Vp := if hasB S i then { S with L := upd S.L i (setV (ackS (vgI S i))) } else S
/-- An act. -/
def stp (A : Ac) (S : Vp) : Vp :=
  if A.d = 1 then addS S A.i else if A.d = 2 then drpS S A.i else if A.d = 3 then binS S A.i A.n else if A.d = 4 then unbS S A.i else if A.d = 5 then entS S A.i else if A.d = 6 then leaS S else if A.d = 7 then setS S A.b else if A.d = 8 then S else if A.d = 9 then wriS S A.i A.n (IntKind.u32.wrap A.m) else if A.d = 10 then ijS S A.i A.n A.m A.on else if A.d = 11 then tckS S else if A.d = 12 then ackI S A.i else S
def DoP (w0 w : World) (p : Pp) (q : Qd) (S R : Vp) (O : Nat → Prop) (A : Ac) : Ending → World → Prop := fun e w' => ∃ v : Bool, e = .returned (.bool v) ∧ (S = R → v = true) ∧ ∃ p' q', Bx w0 w' p' q' (stp A S) (stp A R) O ∧ p'.b = p.b ∧ q'.b = q.b ∧ FrO w0 O w w'
section
variable {w0 w w1 w2 : World} {p p' : Pp} {q q' : Qd} {S R S' R' : Vp} {O : Nat → Prop}
theorem Bx.keep0 (h : Bx w0 w p q S R O) (f : Fr none' w w1) : Bx w0 w1 p q S R O := ⟨h.vx.keep0 f, h.d.keep0 f, h.qhi⟩
theorem FrO.pre {f : Nat → Prop} (a : Fr none' w w1) (h : FrO w0 f w1 w2) : FrO w0 f w w2 := (a.mono (fun _ _ h => h.elim)).trans h
theorem Bx.onP (h : Bx w0 w p q S R O) (c : ChP w p S w1 p' S') : Bx w0 w1 p' q S' R O ∧ FrO w0 O w w1 := by
  obtain ⟨v, f⟩ := h.vx.chg c
  refine ⟨⟨v, h.d.keep c.fr (fun k hk hk2 => (h.qhi k hk).2.2 hk2), fun k hk => ⟨(h.qhi k hk).1, (h.qhi k hk).2.1, fun hk2 => ?_⟩⟩, f⟩
  rcases c.new k hk2 with h' | h'
  · exact (h.qhi k hk).2.2 h'
  · have := h.d.lt k hk; omega
theorem Bx.onD (h : Bx w0 w p q S R O) (c : ChD w q w1 q' R') : Bx w0 w1 p q' S R' O ∧ FrO w0 O w w1 := by
  have hs := h.vx.fr.size
  refine ⟨⟨⟨h.vx.is.keep c.fr (fun k hk hk2 => (h.qhi k hk2).2.2 hk), h.vx.hi, fun k hk => Nat.lt_of_lt_of_le (h.vx.lo k hk) c.fr.size, fr_new h.vx.fr c.fr (fun k hk => (h.qhi k hk).1)⟩, c.is, fun k hk => ?_⟩, c.fr.mono (fun k _ hk => ⟨(h.qhi k hk).1, (h.qhi k hk).2.1⟩)⟩
  rcases c.new k hk with h' | h'
  · exact h.qhi k h'
  · exact ⟨by omega, fun ho => by have := h.vx.lo k ho; omega, fun hp => by have := h.vx.is.lt k hp; omega⟩
/-- A call of the one and then of the other. -/
theorem Bx.two (h : Bx w0 w p q S R O) {f g : FuncId} {args args' : Array Value} {P P' : Ending → Prop} (hp : Calls Try.prog f args w fun e w1 => P e ∧ ∃ p', ChP w p S w1 p' S') (hd : ∀ w1, IsD w1 q R → Calls Try.prog g args' w1 fun e w2 => P' e ∧ ∃ q', ChD w1 q w2 q' R') :
    Calls Try.prog f args w fun e w1 => P e ∧ (∀ b cs t, Row w b cs t → ¬ p.s S b → Row w1 b cs t) ∧ Hid (Calls Try.prog g args' w1 fun e w2 => P' e ∧ Hid (∃ p' q', Bx w0 w2 p' q' S' R' O ∧ p'.b = p.b ∧ q'.b = q.b ∧ FrO w0 O w w2)) := by
  refine hp.mono ?_
  rintro e w1 ⟨h1, p', c⟩
  obtain ⟨b1, f1⟩ := h.onP c
  refine ⟨h1, fun b cs t r hn => r.keep c.fr hn, ?_⟩
  show Calls Try.prog g args' w1 _
  refine (hd w1 b1.d).mono ?_
  rintro e w2 ⟨h2, q', c2⟩
  obtain ⟨b2, f2⟩ := b1.onD c2
  exact ⟨h2, p', q', b2, c.eb, c2.eb, f1.trans f2⟩
end
set_option maxRecDepth 100000 in
set_option maxHeartbeats 4000000 in
theorem does_1 (w0 w : World) (p : Pp) (q : Qd) (S R : Vp) (O : Nat → Prop) (h : Bx w0 w p q S R O) (i n m : Int) (b : Nat → Int) (on : Bool) (hi : I64 i) : Calls Try.prog 8 #[pv p.b, pv q.b, .agg (acA ⟨1, i, n, m, b, on⟩)] w (DoP w0 w p q S R O ⟨1, i, n, m, b, on⟩) := by
  have fB := (Fr.refl none' w).alloc (.cells (acA ⟨1, i, n, m, b, on⟩) 35)
  have rb := row_alloc w (acA ⟨1, i, n, m, b, on⟩) 35
  have HP : Hid (¬ p.s S w.heap.size) := fun e => by have := h.vx.is.lt _ e; omega
  have HB : Hid _ := (h.keep0 fB).two (S' := addS S i) (R' := addS R i) (P := fun e => e = .returned (.int .i64 (addE S i))) (P' := fun e => e = .returned (.int .i64 (addE R i))) ((add_any _ p S (h.keep0 fB).vx.is i).mono fun _ _ ⟨p', h1, h2⟩ => ⟨h1, p', h2⟩) (fun w1 hd => (dadd_any w1 q R hd i).mono fun _ _ ⟨q', h1, h2⟩ => ⟨h1, q', h2⟩)
  have HF : Hid _ := fB
  have HI : Hid (I64 i) := hi
  dsimp only [acA] at rb HB HF
  have c0 := rb.cell 0
  have c1 := rb.cell 1
  have HRB : Hid _ := rb
  dsimp at c0 c1
  unfold acA DoP
  clear h fB hi rb
  go_enter Try.func8, Try.ntmps8
  go_wp2_with fail
  refine Calls.mono HB.out ?_
  rintro e w1 ⟨rfl, hr, HX⟩
  have rb := hr _ _ _ HRB.out HP.out
  clear c0 c1 HRB hr HB
  have c0 := rb.cell 0
  have c1 := rb.cell 1
  dsimp at c0 c1
  clear rb
  go_wp2_with fail
  refine Calls.mono HX.out ?_
  clear HX
  rintro e w2 ⟨rfl, HZ⟩
  go_wp2_with fail
  go_ret
  obtain ⟨p', q', bx, e1, e2, f⟩ := HZ.out
  exact ⟨_, rfl, fun h => by subst h; simp, p', q', bx, e1, e2, FrO.pre HF.out f⟩
set_option maxRecDepth 100000 in
set_option maxHeartbeats 4000000 in
theorem does_2 (w0 w : World) (p : Pp) (q : Qd) (S R : Vp) (O : Nat → Prop) (h : Bx w0 w p q S R O) (i n m : Int) (b : Nat → Int) (on : Bool) (hi : I64 i) : Calls Try.prog 8 #[pv p.b, pv q.b, .agg (acA ⟨2, i, n, m, b, on⟩)] w (DoP w0 w p q S R O ⟨2, i, n, m, b, on⟩) := by
  have fB := (Fr.refl none' w).alloc (.cells (acA ⟨2, i, n, m, b, on⟩) 35)
  have rb := row_alloc w (acA ⟨2, i, n, m, b, on⟩) 35
  have HP : Hid (¬ p.s S w.heap.size) := fun e => by have := h.vx.is.lt _ e; omega
  have HB : Hid _ := (h.keep0 fB).two (S' := drpS S i) (R' := drpS R i) (P := fun e => e = .returned (.int .i64 (drpE S i))) (P' := fun e => e = .returned (.int .i64 (drpE R i))) ((drop_any _ p S (h.keep0 fB).vx.is i hi).mono fun _ _ ⟨h1, h2⟩ => ⟨h1, p, h2⟩) (fun w1 hd => (ddrop_any w1 q R hd i).mono fun _ _ ⟨q', h1, h2⟩ => ⟨h1, q', h2⟩)
  have HF : Hid _ := fB
  have HI : Hid (I64 i) := hi
  dsimp only [acA] at rb HB HF
  have c0 := rb.cell 0
  have c1 := rb.cell 1
  have HRB : Hid _ := rb
  dsimp at c0 c1
  unfold acA DoP
  clear h fB hi rb
  go_enter Try.func8, Try.ntmps8
  go_wp2_with fail
  refine Calls.mono HB.out ?_
  rintro e w1 ⟨rfl, hr, HX⟩
  have rb := hr _ _ _ HRB.out HP.out
  clear c0 c1 HRB hr HB
  have c0 := rb.cell 0
  have c1 := rb.cell 1
  dsimp at c0 c1
  clear rb
  go_wp2_with fail
  refine Calls.mono HX.out ?_
  clear HX
  rintro e w2 ⟨rfl, HZ⟩
  go_wp2_with fail
  go_ret
  obtain ⟨p', q', bx, e1, e2, f⟩ := HZ.out
  exact ⟨_, rfl, fun h => by subst h; simp, p', q', bx, e1, e2, FrO.pre HF.out f⟩
set_option maxRecDepth 100000 in
set_option maxHeartbeats 4000000 in
theorem does_3 (w0 w : World) (p : Pp) (q : Qd) (S R : Vp) (O : Nat → Prop) (h : Bx w0 w p q S R O) (i n m : Int) (b : Nat → Int) (on : Bool) (hi : I64 i) : Calls Try.prog 8 #[pv p.b, pv q.b, .agg (acA ⟨3, i, n, m, b, on⟩)] w (DoP w0 w p q S R O ⟨3, i, n, m, b, on⟩) := by
  have fB := (Fr.refl none' w).alloc (.cells (acA ⟨3, i, n, m, b, on⟩) 35)
  have rb := row_alloc w (acA ⟨3, i, n, m, b, on⟩) 35
  have HP : Hid (¬ p.s S w.heap.size) := fun e => by have := h.vx.is.lt _ e; omega
  have HB : Hid _ := (h.keep0 fB).two (S' := binS S i n) (R' := binS R i n) (P := fun e => e = .returned (.int .i64 (binE S i n))) (P' := fun e => e = .returned (.int .i64 (binE R i n))) ((bind_any _ p S (h.keep0 fB).vx.is i n hi).mono fun _ _ ⟨h1, h2⟩ => ⟨h1, p, h2⟩) (fun w1 hd => (dbind_any w1 q R hd i n).mono fun _ _ ⟨q', h1, h2⟩ => ⟨h1, q', h2⟩)
  have HF : Hid _ := fB
  have HI : Hid (I64 i) := hi
  dsimp only [acA] at rb HB HF
  have c0 := rb.cell 0
  have c1 := rb.cell 1
  have c2 := rb.cell 2
  have HRB : Hid _ := rb
  dsimp at c0 c1 c2
  unfold acA DoP
  clear h fB hi rb
  go_enter Try.func8, Try.ntmps8
  go_wp2_with fail
  refine Calls.mono HB.out ?_
  rintro e w1 ⟨rfl, hr, HX⟩
  have rb := hr _ _ _ HRB.out HP.out
  clear c0 c1 c2 HRB hr HB
  have c0 := rb.cell 0
  have c1 := rb.cell 1
  have c2 := rb.cell 2
  dsimp at c0 c1 c2
  clear rb
  go_wp2_with fail
  refine Calls.mono HX.out ?_
  clear HX
  rintro e w2 ⟨rfl, HZ⟩
  go_wp2_with fail
  go_ret
  obtain ⟨p', q', bx, e1, e2, f⟩ := HZ.out
  exact ⟨_, rfl, fun h => by subst h; simp, p', q', bx, e1, e2, FrO.pre HF.out f⟩
set_option maxRecDepth 100000 in
set_option maxHeartbeats 4000000 in
theorem does_4 (w0 w : World) (p : Pp) (q : Qd) (S R : Vp) (O : Nat → Prop) (h : Bx w0 w p q S R O) (i n m : Int) (b : Nat → Int) (on : Bool) (hi : I64 i) : Calls Try.prog 8 #[pv p.b, pv q.b, .agg (acA ⟨4, i, n, m, b, on⟩)] w (DoP w0 w p q S R O ⟨4, i, n, m, b, on⟩) := by
  have fB := (Fr.refl none' w).alloc (.cells (acA ⟨4, i, n, m, b, on⟩) 35)
  have rb := row_alloc w (acA ⟨4, i, n, m, b, on⟩) 35
  have HP : Hid (¬ p.s S w.heap.size) := fun e => by have := h.vx.is.lt _ e; omega
  have HB : Hid _ := (h.keep0 fB).two (S' := unbS S i) (R' := unbS R i) (P := fun e => e = .returned (.int .i64 (unbE S i))) (P' := fun e => e = .returned (.int .i64 (unbE R i))) ((unbind_any _ p S (h.keep0 fB).vx.is i hi).mono fun _ _ ⟨h1, h2⟩ => ⟨h1, p, h2⟩) (fun w1 hd => (dunbind_any w1 q R hd i).mono fun _ _ ⟨q', h1, h2⟩ => ⟨h1, q', h2⟩)
  have HF : Hid _ := fB
  have HI : Hid (I64 i) := hi
  dsimp only [acA] at rb HB HF
  have c0 := rb.cell 0
  have c1 := rb.cell 1
  have HRB : Hid _ := rb
  dsimp at c0 c1
  unfold acA DoP
  clear h fB hi rb
  go_enter Try.func8, Try.ntmps8
  go_wp2_with fail
  refine Calls.mono HB.out ?_
  rintro e w1 ⟨rfl, hr, HX⟩
  have rb := hr _ _ _ HRB.out HP.out
  clear c0 c1 HRB hr HB
  have c0 := rb.cell 0
  have c1 := rb.cell 1
  dsimp at c0 c1
  clear rb
  go_wp2_with fail
  refine Calls.mono HX.out ?_
  clear HX
  rintro e w2 ⟨rfl, HZ⟩
  go_wp2_with fail
  go_ret
  obtain ⟨p', q', bx, e1, e2, f⟩ := HZ.out
  exact ⟨_, rfl, fun h => by subst h; simp, p', q', bx, e1, e2, FrO.pre HF.out f⟩
set_option maxRecDepth 100000 in
set_option maxHeartbeats 4000000 in
theorem does_5 (w0 w : World) (p : Pp) (q : Qd) (S R : Vp) (O : Nat → Prop) (h : Bx w0 w p q S R O) (i n m : Int) (b : Nat → Int) (on : Bool) (hi : I64 i) : Calls Try.prog 8 #[pv p.b, pv q.b, .agg (acA ⟨5, i, n, m, b, on⟩)] w (DoP w0 w p q S R O ⟨5, i, n, m, b, on⟩) := by
  have fB := (Fr.refl none' w).alloc (.cells (acA ⟨5, i, n, m, b, on⟩) 35)
  have rb := row_alloc w (acA ⟨5, i, n, m, b, on⟩) 35
  have HP : Hid (¬ p.s S w.heap.size) := fun e => by have := h.vx.is.lt _ e; omega
  have HB : Hid _ := (h.keep0 fB).two (S' := entS S i) (R' := entS R i) (P := fun e => e = .returned (.int .i64 (entE S i))) (P' := fun e => e = .returned (.int .i64 (entE R i))) ((enter_any _ p S (h.keep0 fB).vx.is i hi).mono fun _ _ ⟨h1, h2⟩ => ⟨h1, p, h2⟩) (fun w1 hd => (denter_any w1 q R hd i).mono fun _ _ ⟨q', h1, h2⟩ => ⟨h1, q', h2⟩)
  have HF : Hid _ := fB
  have HI : Hid (I64 i) := hi
  dsimp only [acA] at rb HB HF
  have c0 := rb.cell 0
  have c1 := rb.cell 1
  have HRB : Hid _ := rb
  dsimp at c0 c1
  unfold acA DoP
  clear h fB hi rb
  go_enter Try.func8, Try.ntmps8
  go_wp2_with fail
  refine Calls.mono HB.out ?_
  rintro e w1 ⟨rfl, hr, HX⟩
  have rb := hr _ _ _ HRB.out HP.out
  clear c0 c1 HRB hr HB
  have c0 := rb.cell 0
  have c1 := rb.cell 1
  dsimp at c0 c1
  clear rb
  go_wp2_with fail
  refine Calls.mono HX.out ?_
  clear HX
  rintro e w2 ⟨rfl, HZ⟩
  go_wp2_with fail
  go_ret
  obtain ⟨p', q', bx, e1, e2, f⟩ := HZ.out
  exact ⟨_, rfl, fun h => by subst h; simp, p', q', bx, e1, e2, FrO.pre HF.out f⟩

end Go.Proofs.Ythkieoedidpkaaa
