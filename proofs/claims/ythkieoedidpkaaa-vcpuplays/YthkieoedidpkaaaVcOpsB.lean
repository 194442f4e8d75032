/-
  Enter, SetBank of package vcpu over the translation. No statement is proved here.
-/
import Derived.Test.YthkieoedidpkaaaVcOps
import Derived.Deep.RegionHeld3
namespace Go.Proofs.Ythkieoedidpkaaa
open Go.RowKit Go.Maps Go.WideMaps

/-- What Enter leaves, behind Leave. -/
theorem IsP.entered {w : World} {p : Pp} {S : Vp} (h : IsP w p S) (hl : S.ld = -1) {id : Int} {x : Vc} (hx : fnd S.L id = some x) : ChP w p S ((bank8 w p.b x.sy).setCell ⟨p.b, 10, none⟩ (.int .i64 id)) p { S with ld := id } := by
  obtain ⟨⟨⟨a, r, ea⟩, hv⟩, hid, hin, g0, _⟩ := h.has hx
  have hbn := (h.bne hin).1
  have hKn := (h.bne hin).2
  have f2 := bank8_fr (Fr.refl (at' p.b) w) (b := p.b) (Or.inr rfl) x.sy
  have f3 := f2.setCell (p := ⟨p.b, 10, none⟩) (Or.inr rfl) (.int .i64 id)
  have e := h.turn f3 (k := id) (ld' := id) (g := fun x => x) (fun _ => rfl) (fun j hj => Or.inl hj) (by
    rw [upd_same]
    have := good_ent h.good id
    unfold entS at this
    rw [if_pos (has_iff.2 ⟨x, hx⟩)] at this
    exact this) (by
    rw [upd_same, bk_some (S := ⟨S.L, id, S.lrs⟩) hx]
    have r1 := bank8_row h.row x.sy
    have r2 := r1.setCell 10 (.int .i64 id)
    exact r2) (fun y hy => by
    rw [hx] at hy
    cases hy
    refine ⟨⟨a, r.keep f3 (fun e => hbn (by have e : p.B x.id = p.b := e; exact e.symm)), fun e => absurd hid e⟩, hv.keep f3 (fun j hj e => ?_)⟩
    have e : j = p.b := e
    subst e
    exact hKn hj) (fun y hy _ _ e => by
    have := h.good.ids y hy
    omega)
  rw [upd_same] at e
  exact e
set_option maxRecDepth 100000 in
set_option maxHeartbeats 4000000 in
theorem enter_any (w : World) (p : Pp) (S : Vp) (h : IsP w p S) (id : Int) (hi : I64 id) : Calls Try.prog 11 #[pv p.b, .int .i64 id] w fun e w' => e = .returned (.int .i64 (entE S id)) ∧ ChP w p S w' p (entS S id) := by
  obtain ⟨_, c1, c10⟩ := h.st
  have X := has_any' w p S h id hi
  have HC : Hid (ChP w p S w p S) := ChP.same h (Fr.refl _ _)
  unfold entE entS
  cases e : hasB S id with
  | false =>
    rw [e] at X
    clear h hi e
    go_enter Try.func11, Try.ntmps11
    go_wp2_with fail
    refine X.mono ?_
    rintro e w1 ⟨rfl, rfl⟩
    go_wp2_with fail
    go_ret
    exact ⟨rfl, HC.out⟩
  | true =>
    rw [e] at X
    obtain ⟨x, hx⟩ := has_iff.1 e
    by_cases hl : id = S.ld
    · have hs : ({ S with ld := id } : Vp) = S := by rw [hl]
      have d1 : (id == S.ld) = true := by simpa using hl
      have HD : Hid (ChP w p S w p { S with ld := id }) := by rw [hs]; exact HC.out
      clear h hi e hx hs hl
      go_enter Try.func11, Try.ntmps11
      go_wp2_with fail
      refine X.mono ?_
      rintro e w1 ⟨rfl, rfl⟩
      go_wp2_with fail
      go_ret
      exact ⟨rfl, HD.out⟩
    · have d1 : (id == S.ld) = false := by simpa using hl
      have Y := leave_any w p S h
      have HX : Hid (fnd S.L id = some x ∧ I64 id) := ⟨hx, hi⟩
      clear h hi e hx hl
      go_enter Try.func11, Try.ntmps11
      go_wp2_with fail
      refine X.mono ?_
      rintro e w1 ⟨rfl, rfl⟩
      clear X
      go_wp2_with fail
      refine Y.mono ?_
      clear Y
      rintro e w2 ⟨v, rfl, C2⟩
      have HD : Hid (ChP w1 p S _ p ⟨S.L, id, S.lrs⟩) := C2.trans (C2.is.entered rfl HX.out.1)
      obtain ⟨_, k1, k10⟩ := C2.is.st
      have l2 := ((C2.is.look HX.out.2).2 x HX.out.1).2
      obtain ⟨⟨⟨a, r, ea⟩, _⟩, hid, hin, g0, _⟩ := C2.is.has (S := leaS S) HX.out.1
      have hn : x.id ≠ -1 := by omega
      rw [ea hn] at r
      have hbn := (C2.is.bne hin).1
      rw [hid] at r hbn
      obtain ⟨a0, a1, a2, a3, a4, a5, a6, a7⟩ := pr_cells r
      obtain ⟨b0, b1, b2, b3, b4, b5, b6, b7⟩ := C2.is.bks
      have y10 : w2.frozen? ⟨p.b, 10, none⟩ = false := C2.is.row.frozen 10
      have y2 : w2.frozen? ⟨p.b, 2, none⟩ = false := C2.is.row.frozen 2
      have y3 : w2.frozen? ⟨p.b, 3, none⟩ = false := C2.is.row.frozen 3
      have y4 : w2.frozen? ⟨p.b, 4, none⟩ = false := C2.is.row.frozen 4
      have y5 : w2.frozen? ⟨p.b, 5, none⟩ = false := C2.is.row.frozen 5
      have y6 : w2.frozen? ⟨p.b, 6, none⟩ = false := C2.is.row.frozen 6
      have y7 : w2.frozen? ⟨p.b, 7, none⟩ = false := C2.is.row.frozen 7
      have y8 : w2.frozen? ⟨p.b, 8, none⟩ = false := C2.is.row.frozen 8
      have y9 : w2.frozen? ⟨p.b, 9, none⟩ = false := C2.is.row.frozen 9
      have hbn2 : p.B id ≠ p.b := fun e => hbn e.symm
      dsimp only [bank8] at HD
      generalize bkF (leaS S) = f at *
      have hsy : Hid (x.sy = x.sy) := rfl
      generalize x.sy = gs at *
      generalize p.B id = gB at *
      clear C2 r ea hin hid g0 hn hsy c1 c10
      go_wp2_with fail
      go_ret
      exact ⟨rfl, HD.out⟩

/-- What SetBank leaves. -/
theorem IsP.banked {w : World} {p : Pp} {S : Vp} (h : IsP w p S) {x : Vc} (hx : fnd S.L S.ld = some x) (b : Nat → Int) : ChP w p S (bank8 w p.b (fun k => if k < 6 then b k else bkF S k)) p { S with L := upd S.L S.ld (setR b) } := by
  obtain ⟨⟨⟨a, r, _⟩, hv⟩, hid, hin, _⟩ := h.has hx
  have hbn := (h.bne hin).1
  have hKn := (h.bne hin).2
  have f2 := bank8_fr (Fr.refl (at' p.b) w) (b := p.b) (Or.inr rfl) (fun k => if k < 6 then b k else bkF S k)
  refine h.turn f2 (g := setR b) (fun _ => rfl) (fun j hj => Or.inl hj) (h.good.upd1 _ (fun _ => rfl) (fun _ => rfl)) ?_ (fun y hy => ?_) (fun y _ _ e => e)
  · rw [bk_upd (g := setR b) (fun _ => rfl) hx, if_pos rfl]
    have r1 := bank8_row h.row (fun k => if k < 6 then b k else bkF S k)
    rw [bk_some hx] at r1 ⊢
    exact r1
  · rw [hx] at hy
    cases hy
    refine ⟨⟨a, r.keep f2 (fun e => hbn (by have e : p.B x.id = p.b := e; exact e.symm)), fun e => absurd hid e⟩, hv.keep f2 (fun j hj e => ?_)⟩
    have e : j = p.b := e
    subst e
    exact hKn hj
set_option maxRecDepth 100000 in
set_option maxHeartbeats 4000000 in
theorem setbank_any (w : World) (p : Pp) (S : Vp) (h : IsP w p S) (b : Nat → Int) : Calls Try.prog 14 #[pv p.b, .agg (r8 b)] w fun e w' => e = .returned (.int .i64 (setE S)) ∧ ChP w p S w' p (setS S b) := by
  have h0 := h.keep0 ((Fr.refl none' w).alloc (.cells (r8 b) 33))
  obtain ⟨_, _, c10⟩ := h0.st
  have HC : Hid (ChP w p S (w.alloc (.cells (r8 b) 33)) p S) := ChP.same h ((Fr.refl none' w).alloc _)
  unfold setE setS
  rcases h.good.ld with hl | hl
  · rw [if_pos hl, if_pos hl]
    rw [hl] at c10
    dsimp only [r8] at HC c10
    unfold r8
    clear h h0 hl
    go_enter Try.func14, Try.ntmps14
    go_wp2_with fail
    go_ret
    exact ⟨rfl, HC.out⟩
  · obtain ⟨x, hx⟩ := has_iff.1 hl
    obtain ⟨_, _, _, g0, _⟩ := h.has hx
    have hn : S.ld ≠ -1 := by omega
    have d1 : (S.ld == -1) = false := by simpa using hn
    rw [if_neg hn, if_neg hn]
    obtain ⟨b0, b1, b2, b3, b4, b5, b6, b7⟩ := h0.bks
    have q := row_alloc w (r8 b) 33
    have HQ : Hid (Row (w.alloc (.cells (r8 b) 33)) w.heap.size (r8 b) 33 ∧ IsP (w.alloc (.cells (r8 b) 33)) p S ∧ fnd S.L S.ld = some x ∧ IsP w p S) := ⟨q, h0, hx, h⟩
    have hlt := h.row.lt
    have hne : p.b ≠ w.heap.size := by omega
    have hne2 : w.heap.size ≠ p.b := by omega
    have HB : Hid (w.heap.size ≠ p.b) := hne2
    have y2 : (w.alloc (.cells (r8 b) 33)).frozen? ⟨p.b, 2, none⟩ = false := h0.row.frozen 2
    have q0 := q.cell 0
    have z0 := q.frozen 0
    have y3 : (w.alloc (.cells (r8 b) 33)).frozen? ⟨p.b, 3, none⟩ = false := h0.row.frozen 3
    have q1 := q.cell 1
    have z1 := q.frozen 1
    have y4 : (w.alloc (.cells (r8 b) 33)).frozen? ⟨p.b, 4, none⟩ = false := h0.row.frozen 4
    have q2 := q.cell 2
    have z2 := q.frozen 2
    have y5 : (w.alloc (.cells (r8 b) 33)).frozen? ⟨p.b, 5, none⟩ = false := h0.row.frozen 5
    have q3 := q.cell 3
    have z3 := q.frozen 3
    have y6 : (w.alloc (.cells (r8 b) 33)).frozen? ⟨p.b, 6, none⟩ = false := h0.row.frozen 6
    have q4 := q.cell 4
    have z4 := q.frozen 4
    have y7 : (w.alloc (.cells (r8 b) 33)).frozen? ⟨p.b, 7, none⟩ = false := h0.row.frozen 7
    have q5 := q.cell 5
    have z5 := q.frozen 5
    have y8 : (w.alloc (.cells (r8 b) 33)).frozen? ⟨p.b, 8, none⟩ = false := h0.row.frozen 8
    have q6 := q.cell 6
    have z6 := q.frozen 6
    have y9 : (w.alloc (.cells (r8 b) 33)).frozen? ⟨p.b, 9, none⟩ = false := h0.row.frozen 9
    have q7 := q.cell 7
    have z7 := q.frozen 7
    have HC2 : Hid (∀ W, Fr none' w W → ChP w p S (bank8 W p.b (fun k => if k < 6 then b k else bkF S k)) p { S with L := upd S.L S.ld (setR b) }) := fun W F => (ChP.same h F).trans ((h.keep0 F).banked hx b)
    have HFW : Hid (Fr none' w (w.alloc (.cells (r8 b) 33))) := (Fr.refl none' w).alloc _
    clear HQ HC HB
    dsimp only [r8] at HFW q0 q1 q2 q3 q4 q5 q6 q7 b0 b1 b2 b3 b4 b5 b6 b7 c10 y2 z0 y3 z1 y4 z2 y5 z3 y6 z4 y7 z5 y8 z6 y9 z7
    dsimp at q0 q1 q2 q3 q4 q5 q6 q7
    dsimp only [bank8] at HC2
    unfold r8
    generalize bkF S = f at *
    clear h h0 hl hx q hlt g0 hn
    go_enter Try.func14, Try.ntmps14
    go_wp2_with fail
    generalize hg : w.heap.size = g at *
    generalize (w.alloc (.cells #[.int .u32 (b 0), .int .u32 (b 1), .int .u32 (b 2), .int .u32 (b 3), .int .u32 (b 4), .int .u32 (b 5), .int .u32 (b 6), .int .u32 (b 7)] 33)) = W at *
    have HG : Hid (w.heap.size ≤ g) := by show w.heap.size ≤ g; omega
    clear hg
    go_region_held3 (fun w' => w'.cell? ⟨p.b, 8, none⟩ = some (.int .u32 (f 6)) ∧ w'.cell? ⟨p.b, 9, none⟩ = some (.int .u32 (f 7))) (first | with_reducible exact ⟨b6, b7⟩ | go_keep) (fail)
    all_goals go_wp2_with fail
    all_goals go_ret
    all_goals first
      | exact ⟨rfl, (HC2.out _ ((HFW.out.setCell (p := ⟨g, 6, none⟩) (Or.inl HG.out) _).setCell (p := ⟨g, 7, none⟩) (Or.inl HG.out) _)).after (Fr.refl none' _).drew⟩
      | exact ⟨rfl, (HC2.out _ ((HFW.out.setCell (p := ⟨g, 7, none⟩) (Or.inl HG.out) _).setCell (p := ⟨g, 6, none⟩) (Or.inl HG.out) _)).after (Fr.refl none' _).drew⟩

end Go.Proofs.Ythkieoedidpkaaa
