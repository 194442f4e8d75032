/-
  Bank, SetBank, Leave, Enter of package vcpu over the translation. No statement is proved here.
-/
import Derived.Test.YthkieoedidpkaaaVcFun
import Derived.Deep.RegionWith
namespace Go.Proofs.Ythkieoedidpkaaa
open Go.RowKit Go.Maps Go.WideMaps

def r8 (f : Nat → Int) : Array Value := #[.int .u32 (f 0), .int .u32 (f 1), .int .u32 (f 2), .int .u32 (f 3), .int .u32 (f 4), .int .u32 (f 5), .int .u32 (f 6), .int .u32 (f 7)]
theorem size_r8 : (Try.prog.info? 33).map (·.size) = some 8 := by kernel_rfl
theorem ret_r8 {fn : Func} {p : Tmp} {tmps : Array Value} {g : Nat} {cs : Array Value} {w : World} (h : fn.results = #[.cell p 33]) (hp : tmps.getD p undef = .pointer (some ⟨g, 0, none⟩)) (hr : Row w g cs 33) (hs : cs.size = 8) :
    (results fn tmps).run Try.prog w = .ok (.agg cs) w :=
  results_cell_row h tmps w g _ cs (0, 0) _ hp hr Try.underlying33 rfl (by rw [hs]; exact size_r8)
/-- Eight cells, one after another. -/
def bank8 (W : World) (b : Nat) (f : Nat → Int) : World := ((((((((W.setCell ⟨b, 2, none⟩ (.int .u32 (f 0))).setCell ⟨b, 3, none⟩ (.int .u32 (f 1))).setCell ⟨b, 4, none⟩ (.int .u32 (f 2))).setCell ⟨b, 5, none⟩ (.int .u32 (f 3))).setCell ⟨b, 6, none⟩ (.int .u32 (f 4))).setCell ⟨b, 7, none⟩ (.int .u32 (f 5))).setCell ⟨b, 8, none⟩ (.int .u32 (f 6))).setCell ⟨b, 9, none⟩ (.int .u32 (f 7)))
def side8 (W : World) (b : Nat) (f : Nat → Int) : World := ((((((((W.setCell ⟨b, 0, none⟩ (.int .u32 (f 0))).setCell ⟨b, 1, none⟩ (.int .u32 (f 1))).setCell ⟨b, 2, none⟩ (.int .u32 (f 2))).setCell ⟨b, 3, none⟩ (.int .u32 (f 3))).setCell ⟨b, 4, none⟩ (.int .u32 (f 4))).setCell ⟨b, 5, none⟩ (.int .u32 (f 5))).setCell ⟨b, 6, none⟩ (.int .u32 (f 6))).setCell ⟨b, 7, none⟩ (.int .u32 (f 7)))
theorem bank8_row {W : World} {b : Nat} {lrs ld : Int} {m : Nat} {bk : Nat → Int} {t : TypeId} (r : Row W b (stC lrs ld m bk) t) (f : Nat → Int) : Row (bank8 W b f) b (stC lrs ld m f) t := by
  have h := ((((((((r.setCell 2 (.int .u32 (f 0))).setCell 3 (.int .u32 (f 1))).setCell 4 (.int .u32 (f 2))).setCell 5 (.int .u32 (f 3))).setCell 6 (.int .u32 (f 4))).setCell 7 (.int .u32 (f 5))).setCell 8 (.int .u32 (f 6))).setCell 9 (.int .u32 (f 7)))
  simp only [stC, List.setIfInBounds_toArray, List.set_cons_zero, List.set_cons_succ] at h
  exact h
theorem side8_row {W : World} {b : Nat} {a : Nat → Int} {kb : Nat} {th : Int} {t : TypeId} (r : Row W b (prC a kb th) t) (f : Nat → Int) : Row (side8 W b f) b (prC f kb th) t := by
  have h := ((((((((r.setCell 0 (.int .u32 (f 0))).setCell 1 (.int .u32 (f 1))).setCell 2 (.int .u32 (f 2))).setCell 3 (.int .u32 (f 3))).setCell 4 (.int .u32 (f 4))).setCell 5 (.int .u32 (f 5))).setCell 6 (.int .u32 (f 6))).setCell 7 (.int .u32 (f 7)))
  simp only [prC, List.setIfInBounds_toArray, List.set_cons_zero, List.set_cons_succ] at h
  exact h
theorem bank8_fr {T : Nat → Prop} {w W : World} {b : Nat} (f : Fr T w W) (hl : w.heap.size ≤ b ∨ T b) (g : Nat → Int) : Fr T w (bank8 W b g) := ((((((((f.setCell (p := ⟨b, 2, none⟩) hl _).setCell (p := ⟨b, 3, none⟩) hl _).setCell (p := ⟨b, 4, none⟩) hl _).setCell (p := ⟨b, 5, none⟩) hl _).setCell (p := ⟨b, 6, none⟩) hl _).setCell (p := ⟨b, 7, none⟩) hl _).setCell (p := ⟨b, 8, none⟩) hl _).setCell (p := ⟨b, 9, none⟩) hl _)
theorem side8_fr {T : Nat → Prop} {w W : World} {b : Nat} (f : Fr T w W) (hl : w.heap.size ≤ b ∨ T b) (g : Nat → Int) : Fr T w (side8 W b g) := ((((((((f.setCell (p := ⟨b, 0, none⟩) hl _).setCell (p := ⟨b, 1, none⟩) hl _).setCell (p := ⟨b, 2, none⟩) hl _).setCell (p := ⟨b, 3, none⟩) hl _).setCell (p := ⟨b, 4, none⟩) hl _).setCell (p := ⟨b, 5, none⟩) hl _).setCell (p := ⟨b, 6, none⟩) hl _).setCell (p := ⟨b, 7, none⟩) hl _)
theorem post_voidR {fn : Func} {R : Ending → World → Prop} {a : Act} {w : World} (hd : a.defers = []) (hr : fn.results = #[]) (h : R (.returned (.tuple #[])) w) : bodyPost Try.prog fn R .ret a w :=
  bodyPost_ret (v := .tuple #[]) (by simp [results, hr]) hd h
theorem upd_same (L : List Vc) (k : Int) : upd L k (fun x => x) = L := by
  unfold upd
  have : (fun x : Vc => if x.id = k then x else x) = id := by funext x; simp
  rw [this, List.map_id]
section
variable {w : World} {p : Pp} {S : Vp}
theorem IsP.bks (h : IsP w p S) : w.cell? ⟨p.b, 2, none⟩ = some (.int .u32 (bkF S 0)) ∧ w.cell? ⟨p.b, 3, none⟩ = some (.int .u32 (bkF S 1)) ∧ w.cell? ⟨p.b, 4, none⟩ = some (.int .u32 (bkF S 2)) ∧ w.cell? ⟨p.b, 5, none⟩ = some (.int .u32 (bkF S 3)) ∧ w.cell? ⟨p.b, 6, none⟩ = some (.int .u32 (bkF S 4)) ∧ w.cell? ⟨p.b, 7, none⟩ = some (.int .u32 (bkF S 5)) ∧ w.cell? ⟨p.b, 8, none⟩ = some (.int .u32 (bkF S 6)) ∧ w.cell? ⟨p.b, 9, none⟩ = some (.int .u32 (bkF S 7)) :=
  ⟨h.row.cell 2, h.row.cell 3, h.row.cell 4, h.row.cell 5, h.row.cell 6, h.row.cell 7, h.row.cell 8, h.row.cell 9⟩
theorem pr_cells {w : World} {b : Nat} {a : Nat → Int} {kb : Nat} {th : Int} {t : TypeId} (r : Row w b (prC a kb th) t) : w.cell? ⟨b, 0, none⟩ = some (.int .u32 (a 0)) ∧ w.cell? ⟨b, 1, none⟩ = some (.int .u32 (a 1)) ∧ w.cell? ⟨b, 2, none⟩ = some (.int .u32 (a 2)) ∧ w.cell? ⟨b, 3, none⟩ = some (.int .u32 (a 3)) ∧ w.cell? ⟨b, 4, none⟩ = some (.int .u32 (a 4)) ∧ w.cell? ⟨b, 5, none⟩ = some (.int .u32 (a 5)) ∧ w.cell? ⟨b, 6, none⟩ = some (.int .u32 (a 6)) ∧ w.cell? ⟨b, 7, none⟩ = some (.int .u32 (a 7)) :=
  ⟨r.cell 0, r.cell 1, r.cell 2, r.cell 3, r.cell 4, r.cell 5, r.cell 6, r.cell 7⟩
end
set_option maxRecDepth 100000 in
theorem bank_any (w : World) (p : Pp) (S : Vp) (h : IsP w p S) : Calls Try.prog 15 #[pv p.b] w fun e w' => e = .returned (.agg (r8 (bkF S))) ∧ Fr none' w w' := by
  obtain ⟨b0, b1, b2, b3, b4, b5, b6, b7⟩ := (h.keep0 ((Fr.refl none' w).alloc (.cells #[.int .u32 0, .int .u32 0, .int .u32 0, .int .u32 0, .int .u32 0, .int .u32 0, .int .u32 0, .int .u32 0] 33))).bks
  generalize bkF S = f at *
  have HR : Hid (Row (w.alloc (.cells (r8 f) 33)) w.heap.size (r8 f) 33) := row_alloc _ _ _
  have HF : Hid (Fr none' w (w.alloc (.cells (r8 f) 33))) := (Fr.refl none' w).alloc _
  have hlt := h.row.lt
  have hne : p.b ≠ w.heap.size := by omega
  have hne2 : w.heap.size ≠ p.b := by omega
  dsimp only [r8] at HR HF
  clear h hlt
  go_enter Try.func15, Try.ntmps15
  go_wp2_with fail
  refine bodyPost_ret (ret_r8 rfl rfl HR.out rfl) rfl ?_
  exact ⟨rfl, HF.out⟩

/-- What Leave leaves. -/
theorem IsP.left {w : World} {p : Pp} {S : Vp} (h : IsP w p S) {x : Vc} (hx : fnd S.L S.ld = some x) : ChP w p S ((bank8 (side8 w (p.B S.ld) (bkF S)) p.b (fun _ => 0)).setCell ⟨p.b, 10, none⟩ (.int .i64 (-1))) p (leaS S) := by
  obtain ⟨⟨⟨a, r, _⟩, hv⟩, hid, hin, _⟩ := h.has hx
  have hbn := (h.bne hin).1
  have hKn := (h.bne hin).2
  have hBn := h.Bne hin hin
  rw [hid] at r hv hbn hKn hBn
  have hT0 : Fr (fun j => j = p.b ∨ j = p.B S.ld) w w := Fr.refl _ _
  have f1 := side8_fr hT0 (b := p.B S.ld) (Or.inr (Or.inr rfl)) (bkF S)
  have f2 := bank8_fr f1 (b := p.b) (Or.inr (Or.inl rfl)) (fun _ => 0)
  have f3 := f2.setCell (p := ⟨p.b, 10, none⟩) (Or.inr (Or.inl rfl)) (.int .i64 (-1))
  have fs := side8_fr (Fr.refl (at' (p.B S.ld)) w) (b := p.B S.ld) (Or.inr rfl) (bkF S)
  have fb := bank8_fr (Fr.refl (at' p.b) (side8 w (p.B S.ld) (bkF S))) (b := p.b) (Or.inr rfl) (fun _ => 0)
  have fl := fr_set (bank8 (side8 w (p.B S.ld) (bkF S)) p.b (fun _ => 0)) p.b 10 (.int .i64 (-1)) (Fr.refl (at' p.b) _)
  have hb := bk_some hx
  have e := h.turn f3 (k := S.ld) (ld' := -1) (g := fun x => x) (fun _ => rfl) (fun j hj => by
    rcases hj with hj | hj
    · exact Or.inl hj
    · exact Or.inr ⟨by rw [hx]; rfl, hj⟩) (by rw [upd_same]; exact good_lea h.good) (by
    rw [upd_same, bk_none (S := ⟨S.L, -1, S.lrs⟩) h.good.notneg]
    have r1 := bank8_row (h.row.keep fs (fun e => hbn e)) (fun _ => 0)
    have r2 := r1.setCell 10 (.int .i64 (-1))
    exact r2) (fun y hy => by
    rw [hx] at hy
    cases hy
    refine ⟨⟨x.sy, ?_, fun _ => rfl⟩, ?_⟩
    · rw [hid]
      have r1 := side8_row r (bkF S)
      rw [hb] at r1 ⊢
      rw [hb] at fb fl
      exact (Row.keep r1 fb (fun e => hbn (by have e : p.B S.ld = p.b := e; exact e.symm))).keep fl (fun e => hbn (by have e : p.B S.ld = p.b := e; exact e.symm))
    · rw [hid]
      exact hv.keep f3 (fun j hj e => by
        rcases e with e | e
        · rw [e] at hj; exact hKn hj
        · rw [e] at hj; exact hBn hj)) (fun y _ h1 _ => h1)
  rw [upd_same] at e
  exact e
set_option maxRecDepth 100000 in
set_option maxHeartbeats 4000000 in
theorem leave_any (w : World) (p : Pp) (S : Vp) (h : IsP w p S) : Calls Try.prog 12 #[pv p.b] w fun e w' => ∃ v, e = .returned v ∧ ChP w p S w' p (leaS S) := by
  obtain ⟨_, c1, c10⟩ := h.st
  rcases h.good.ld with hl | hl
  · have hs : leaS S = S := by unfold leaS; rw [← hl]
    have HC : Hid (ChP w p S w p (leaS S)) := by rw [hs]; exact ChP.same h (Fr.refl _ _)
    rw [hl] at c10
    clear h hl hs
    go_enter Try.func12, Try.ntmps12
    go_wp2_with fail
    refine post_voidR rfl rfl ?_
    exact ⟨_, rfl, HC.out⟩
  · obtain ⟨x, hx⟩ := has_iff.1 hl
    obtain ⟨⟨⟨a, r, _⟩, _⟩, hid, hin, g0, g1⟩ := h.has hx
    have hbn := (h.bne hin).1
    rw [hid] at r hbn
    have l2 := ((h.look (id := S.ld) ⟨by omega, by omega⟩).2 x hx).2
    have l3 := (((h.keep0 (Fr.refl none' w).drew).look (id := S.ld) ⟨by omega, by omega⟩).2 x hx).2
    have d1 : (S.ld == -1) = false := by
      have : S.ld ≠ -1 := by omega
      simpa using this
    have HC : Hid _ := h.left hx
    obtain ⟨b0, b1, b2, b3, b4, b5, b6, b7⟩ := h.bks
    obtain ⟨a0, a1, a2, a3, a4, a5, a6, a7⟩ := pr_cells r
    have y10 : w.frozen? ⟨p.b, 10, none⟩ = false := h.row.frozen 10
    have y2 : w.frozen? ⟨p.b, 2, none⟩ = false := h.row.frozen 2
    have z0 : w.frozen? ⟨p.B S.ld, 0, none⟩ = false := r.frozen 0
    have y3 : w.frozen? ⟨p.b, 3, none⟩ = false := h.row.frozen 3
    have z1 : w.frozen? ⟨p.B S.ld, 1, none⟩ = false := r.frozen 1
    have y4 : w.frozen? ⟨p.b, 4, none⟩ = false := h.row.frozen 4
    have z2 : w.frozen? ⟨p.B S.ld, 2, none⟩ = false := r.frozen 2
    have y5 : w.frozen? ⟨p.b, 5, none⟩ = false := h.row.frozen 5
    have z3 : w.frozen? ⟨p.B S.ld, 3, none⟩ = false := r.frozen 3
    have y6 : w.frozen? ⟨p.b, 6, none⟩ = false := h.row.frozen 6
    have z4 : w.frozen? ⟨p.B S.ld, 4, none⟩ = false := r.frozen 4
    have y7 : w.frozen? ⟨p.b, 7, none⟩ = false := h.row.frozen 7
    have z5 : w.frozen? ⟨p.B S.ld, 5, none⟩ = false := r.frozen 5
    have y8 : w.frozen? ⟨p.b, 8, none⟩ = false := h.row.frozen 8
    have z6 : w.frozen? ⟨p.B S.ld, 6, none⟩ = false := r.frozen 6
    have y9 : w.frozen? ⟨p.b, 9, none⟩ = false := h.row.frozen 9
    have z7 : w.frozen? ⟨p.B S.ld, 7, none⟩ = false := r.frozen 7
    have hbn2 : p.B S.ld ≠ p.b := fun e => hbn e.symm
    dsimp only [bank8, side8] at HC
    generalize bkF S = f at *
    generalize p.B S.ld = gB at *
    clear h hl hx r hin hid g0 g1
    go_enter Try.func12, Try.ntmps12
    go_wp2_with fail
    go_region_with fail
    all_goals go_wp2_with fail
    all_goals refine post_void rfl rfl fun v => ?_
    all_goals first | exact ⟨v, rfl, HC.out.after (Fr.refl none' _).drew⟩ | exact ⟨⟨v, rfl⟩, HC.out.after (Fr.refl none' _).drew⟩ | exact ⟨v, rfl, HC.out⟩

end Go.Proofs.Ythkieoedidpkaaa
