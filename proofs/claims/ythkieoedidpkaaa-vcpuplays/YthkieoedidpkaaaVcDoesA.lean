/-
  viceroylaw18.does over the translation, the later acts. No statement is proved here.
-/
import Derived.Test.YthkieoedidpkaaaVcDoes
namespace Go.Proofs.Ythkieoedidpkaaa
open Go.RowKit Go.Maps Go.WideMaps

set_option maxRecDepth 100000 in
set_option maxHeartbeats 4000000 in
theorem does_7 (w0 w : World) (p : Pp) (q : Qd) (S R : Vp) (O : Nat → Prop) (h : Bx w0 w p q S R O) (i n m : Int) (b : Nat → Int) (on : Bool) (hi : I64 i) : Calls Try.prog 8 #[pv p.b, pv q.b, .agg (acA ⟨7, i, n, m, b, on⟩)] w (DoP w0 w p q S R O ⟨7, i, n, m, b, on⟩) := by
  have fB := (Fr.refl none' w).alloc (.cells (acA ⟨7, i, n, m, b, on⟩) 35)
  have rb := row_alloc w (acA ⟨7, i, n, m, b, on⟩) 35
  have HP : Hid (¬ p.s S w.heap.size) := fun e => by have := h.vx.is.lt _ e; omega
  have HB : Hid _ := (h.keep0 fB).two (S' := setS S b) (R' := setS R b) (P := fun e => e = .returned (.int .i64 (setE S))) (P' := fun e => e = .returned (.int .i64 (setE R))) ((setbank_any _ p S (h.keep0 fB).vx.is b).mono fun _ _ ⟨h1, h2⟩ => ⟨h1, p, h2⟩) (fun w1 hd => (dset_any w1 q R hd b).mono fun _ _ ⟨q', h1, h2⟩ => ⟨h1, q', h2⟩)
  have HF : Hid _ := fB
  have HI : Hid (I64 i) := hi
  dsimp only [acA] at rb HB HF
  have c0 := rb.cell 0
  have c4 := rb.cell 4
  have c5 := rb.cell 5
  have c6 := rb.cell 6
  have c7 := rb.cell 7
  have c8 := rb.cell 8
  have c9 := rb.cell 9
  have c10 := rb.cell 10
  have c11 := rb.cell 11
  have HRB : Hid _ := rb
  dsimp at c0 c4 c5 c6 c7 c8 c9 c10 c11
  unfold acA DoP
  clear h fB hi rb
  go_enter Try.func8, Try.ntmps8
  go_wp2_with fail
  refine Calls.mono HB.out ?_
  rintro e w1 ⟨rfl, hr, HX⟩
  have rb := hr _ _ _ HRB.out HP.out
  clear c0 c4 c5 c6 c7 c8 c9 c10 c11 HRB hr HB
  have c0 := rb.cell 0
  have c4 := rb.cell 4
  have c5 := rb.cell 5
  have c6 := rb.cell 6
  have c7 := rb.cell 7
  have c8 := rb.cell 8
  have c9 := rb.cell 9
  have c10 := rb.cell 10
  have c11 := rb.cell 11
  dsimp at c0 c4 c5 c6 c7 c8 c9 c10 c11
  clear rb
  go_wp2_with fail
  refine Calls.mono HX.out ?_
  clear HX
  rintro e w2 ⟨rfl, HZ⟩
  go_wp2_with fail
  go_ret
  obtain ⟨p', q', bx, e1, e2, f⟩ := HZ.out
  exact ⟨_, rfl, fun h => by subst h; simp, p', q', bx, e1, e2, FrO.pre HF.out f⟩
set_option maxRecDepth 100000 in
set_option maxHeartbeats 4000000 in
theorem does_9 (w0 w : World) (p : Pp) (q : Qd) (S R : Vp) (O : Nat → Prop) (h : Bx w0 w p q S R O) (i n m : Int) (b : Nat → Int) (on : Bool) (hi : I64 i) : Calls Try.prog 8 #[pv p.b, pv q.b, .agg (acA ⟨9, i, n, m, b, on⟩)] w (DoP w0 w p q S R O ⟨9, i, n, m, b, on⟩) := by
  have fB := (Fr.refl none' w).alloc (.cells (acA ⟨9, i, n, m, b, on⟩) 35)
  have rb := row_alloc w (acA ⟨9, i, n, m, b, on⟩) 35
  have HP : Hid (¬ p.s S w.heap.size) := fun e => by have := h.vx.is.lt _ e; omega
  have HB : Hid _ := (h.keep0 fB).two (S' := wriS S i n (IntKind.u32.wrap m)) (R' := wriS R i n (IntKind.u32.wrap m)) (P := fun e => e = .returned (.int .i64 (wriE S i n))) (P' := fun e => e = .returned (.int .i64 (wriE R i n))) ((write_any _ p S (h.keep0 fB).vx.is i n (IntKind.u32.wrap m) hi).mono fun _ _ ⟨h1, h2⟩ => ⟨h1, p, h2⟩) (fun w1 hd => (dwrite_any w1 q R hd i n (IntKind.u32.wrap m)).mono fun _ _ ⟨q', h1, h2⟩ => ⟨h1, q', h2⟩)
  have HF : Hid _ := fB
  have HI : Hid (I64 i) := hi
  dsimp only [acA] at rb HB HF
  have c0 := rb.cell 0
  have c1 := rb.cell 1
  have c2 := rb.cell 2
  have c3 := rb.cell 3
  have HRB : Hid _ := rb
  dsimp at c0 c1 c2 c3
  unfold acA DoP
  clear h fB hi rb
  go_enter Try.func8, Try.ntmps8
  go_wp2_with fail
  refine Calls.mono HB.out ?_
  rintro e w1 ⟨rfl, hr, HX⟩
  have rb := hr _ _ _ HRB.out HP.out
  clear c0 c1 c2 c3 HRB hr HB
  have c0 := rb.cell 0
  have c1 := rb.cell 1
  have c2 := rb.cell 2
  have c3 := rb.cell 3
  dsimp at c0 c1 c2 c3
  clear rb
  go_wp2_with fail
  refine Calls.mono HX.out ?_
  clear HX
  rintro e w2 ⟨rfl, HZ⟩
  go_wp2_with fail
  go_ret
  obtain ⟨p', q', bx, e1, e2, f⟩ := HZ.out
  exact ⟨_, rfl, fun h => by subst h; simp, p', q', bx, e1, e2, FrO.pre HF.out f⟩
set_option maxRecDepth 100000 in
set_option maxHeartbeats 4000000 in
theorem does_10 (w0 w : World) (p : Pp) (q : Qd) (S R : Vp) (O : Nat → Prop) (h : Bx w0 w p q S R O) (i n m : Int) (b : Nat → Int) (on : Bool) (hi : I64 i) : Calls Try.prog 8 #[pv p.b, pv q.b, .agg (acA ⟨10, i, n, m, b, on⟩)] w (DoP w0 w p q S R O ⟨10, i, n, m, b, on⟩) := by
  have fB := (Fr.refl none' w).alloc (.cells (acA ⟨10, i, n, m, b, on⟩) 35)
  have rb := row_alloc w (acA ⟨10, i, n, m, b, on⟩) 35
  have HP : Hid (¬ p.s S w.heap.size) := fun e => by have := h.vx.is.lt _ e; omega
  have HB : Hid _ := (h.keep0 fB).two (S' := ijS S i n m on) (R' := ijS R i n m on) (P := fun e => e = .returned (.int .i64 (ijE S i n m))) (P' := fun e => e = .returned (.int .i64 (ijE R i n m))) ((injectV _ p S (h.keep0 fB).vx.is i n m on hi).mono fun _ _ ⟨h1, h2⟩ => ⟨h1, p, h2⟩) (fun w1 hd => (dinject_any w1 q R hd i n m on).mono fun _ _ ⟨q', h1, h2⟩ => ⟨h1, q', h2⟩)
  have HF : Hid _ := fB
  have HI : Hid (I64 i) := hi
  dsimp only [acA] at rb HB HF
  have c0 := rb.cell 0
  have c1 := rb.cell 1
  have c2 := rb.cell 2
  have c3 := rb.cell 3
  have c12 := rb.cell 12
  have HRB : Hid _ := rb
  dsimp at c0 c1 c2 c3 c12
  unfold acA DoP
  clear h fB hi rb
  go_enter Try.func8, Try.ntmps8
  go_wp2_with fail
  refine Calls.mono HB.out ?_
  rintro e w1 ⟨rfl, hr, HX⟩
  have rb := hr _ _ _ HRB.out HP.out
  clear c0 c1 c2 c3 c12 HRB hr HB
  have c0 := rb.cell 0
  have c1 := rb.cell 1
  have c2 := rb.cell 2
  have c3 := rb.cell 3
  have c12 := rb.cell 12
  dsimp at c0 c1 c2 c3 c12
  clear rb
  go_wp2_with fail
  refine Calls.mono HX.out ?_
  clear HX
  rintro e w2 ⟨rfl, HZ⟩
  go_wp2_with fail
  go_ret
  obtain ⟨p', q', bx, e1, e2, f⟩ := HZ.out
  exact ⟨_, rfl, fun h => by subst h; simp, p', q', bx, e1, e2, FrO.pre HF.out f⟩
set_option maxRecDepth 100000 in
set_option maxHeartbeats 4000000 in
theorem does_11 (w0 w : World) (p : Pp) (q : Qd) (S R : Vp) (O : Nat → Prop) (h : Bx w0 w p q S R O) (i n m : Int) (b : Nat → Int) (on : Bool) (hi : I64 i) : Calls Try.prog 8 #[pv p.b, pv q.b, .agg (acA ⟨11, i, n, m, b, on⟩)] w (DoP w0 w p q S R O ⟨11, i, n, m, b, on⟩) := by
  have fB := (Fr.refl none' w).alloc (.cells (acA ⟨11, i, n, m, b, on⟩) 35)
  have rb := row_alloc w (acA ⟨11, i, n, m, b, on⟩) 35
  have HP : Hid (¬ p.s S w.heap.size) := fun e => by have := h.vx.is.lt _ e; omega
  have HB : Hid _ := (h.keep0 fB).two (S' := tckS S) (R' := tckS R) (P := fun e => e = .returned (.bool (tckB S))) (P' := fun e => e = .returned (.bool (tckB R))) ((tick_any _ p S (h.keep0 fB).vx.is).mono fun _ _ ⟨h1, h2⟩ => ⟨h1, p, h2⟩) (fun w1 hd => (dtick_any w1 q R hd).mono fun _ _ ⟨q', h1, h2⟩ => ⟨h1, q', h2⟩)
  have HF : Hid _ := fB
  have HI : Hid (I64 i) := hi
  dsimp only [acA] at rb HB HF
  have c0 := rb.cell 0
  have HRB : Hid _ := rb
  dsimp at c0
  unfold acA DoP
  clear h fB hi rb
  go_enter Try.func8, Try.ntmps8
  go_wp2_with fail
  refine Calls.mono HB.out ?_
  rintro e w1 ⟨rfl, hr, HX⟩
  have rb := hr _ _ _ HRB.out HP.out
  clear c0 HRB hr HB
  have c0 := rb.cell 0
  dsimp at c0
  clear rb
  go_wp2_with fail
  refine Calls.mono HX.out ?_
  clear HX
  rintro e w2 ⟨rfl, HZ⟩
  go_wp2_with fail
  go_ret
  obtain ⟨p', q', bx, e1, e2, f⟩ := HZ.out
  exact ⟨_, rfl, fun h => by subst h; simp, p', q', bx, e1, e2, FrO.pre HF.out f⟩

end Go.Proofs.Ythkieoedidpkaaa
