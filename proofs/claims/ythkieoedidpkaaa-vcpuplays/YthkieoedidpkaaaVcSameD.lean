/-
  The document's Bank and Thread over the translation; slices of interrupts' registers compared. No statement is proved here.
-/
import Derived.Test.YthkieoedidpkaaaVcDoesB
import Derived.Test.YthkieoedidpkaaaVrRefAll
namespace Go.Proofs.Ythkieoedidpkaaa
open Go.RowKit Go.Maps Go.WideMaps

set_option maxRecDepth 100000 in
set_option maxHeartbeats 2000000 in
theorem dthread_any (w : World) (q : Qd) (S : Vp) (h : IsD w q S) (id : Int) : Calls Try.prog 43 #[pv q.b, .int .i64 id] w fun e w' => e = .returned (.int .i64 (thrI S id)) ∧ w' = w := by
  have c0 : w.cell? ⟨q.b, 0, none⟩ = some q.L := h.row.cell 0
  have hlen := h.dlen
  obtain ⟨a, cap, hv, hn⟩ := h.fl.form encO_len
  have X := dat_any w q S h id
  have HN : Hid (∀ i n, q.D[i]? = some n → ∃ g, a = some ⟨g, 0, none⟩ ∧ (∀ r u, (encO n)[r]? = some u → w.cell? ⟨g, i * 11 + r, none⟩ = some u) ∧ ∀ r, w.frozen? ⟨g, r, none⟩ = false) := hn
  rw [hv] at c0
  clear hn hv h
  obtain ⟨N, hNl⟩ : ∃ N, N = q.D.length := ⟨_, rfl⟩
  rw [← hNl] at c0 hlen
  have HL : Hid (N = q.D.length) := hNl
  clear hNl
  go_enter Try.func43, Try.ntmps43
  go_wp2_with fail
  refine X.mono ?_
  clear X
  rintro e w1 ⟨rfl, i, rfl, hp⟩
  rcases hp with ⟨hn, rfl⟩ | ⟨j, y, hj, hid, hf, rfl⟩
  · have HE : Hid (thrI S id = -1) := by show _ = _; unfold thrI; rw [hn]
    clear hn
    go_wp2_with fail
    go_ret
    rw [HE.out]
    exact ⟨rfl, rfl⟩
  · have hjN : j < N := by
      rw [HL.out]
      rcases Nat.lt_or_ge j q.D.length with h' | h'
      · exact h'
      · rw [List.getElem?_eq_none h'] at hj; cases hj
    obtain ⟨g, rfl, hc, hz⟩ := HN.out j y hj
    have HE : Hid (thrI S id = y.1.th) := by show _ = _; unfold thrI; rw [hf]
    have j0 : decide ((j : Int) < 0) = false := decide_eq_false (by omega)
    have d1 : w1.cell? ⟨g, j * 11 + 1, none⟩ = some (.int .i64 y.1.th) := hc 1 _ rfl
    clear hc hz hj hid hf
    go_wp2_with fail
    go_ret
    rw [HE.out]
    exact ⟨rfl, rfl⟩
set_option maxRecDepth 100000 in
set_option maxHeartbeats 4000000 in
theorem dbank_any (w : World) (q : Qd) (S : Vp) (h : IsD w q S) : Calls Try.prog 39 #[pv q.b] w fun e w' => e = .returned (.agg (r8 (bkF S))) ∧ Fr none' w w' := by
  have f0 := (Fr.refl none' w).alloc (.cells #[.int .u32 0, .int .u32 0, .int .u32 0, .int .u32 0, .int .u32 0, .int .u32 0, .int .u32 0, .int .u32 0] 33)
  have h0 := h.keep0 f0
  have X := dat_any _ q S h0 S.ld
  have c0 := h0.row.cell 0
  have c2 := h0.row.cell 2
  have hlen := h0.dlen
  obtain ⟨a, cap, hv, hn⟩ := h0.fl.form encO_len
  have HN : Hid _ := hn
  have hlt := h.row.lt
  have hne : q.b ≠ w.heap.size := by omega
  have hne2 : w.heap.size ≠ q.b := by omega
  have HLT : Hid (∀ (i : Nat) (n : Vc × Nat), q.D[i]? = some n → ∀ g : Nat, a = some ⟨g, 0, none⟩ → g < w.heap.size) := fun i n hi g hg => by
    have := (h.fl.blk (show some g = q.L.ownBlock by rw [hv, hg]; rfl)).2.1
    exact this
  have hg := h.good
  dsimp at c0 c2
  rw [hv] at c0
  have HG : Hid (S.ld = -1 ∨ hasB S S.ld = true) := hg.ld
  have HP : Hid (∀ x, fnd S.L S.ld = some x → 0 ≤ S.ld) := fun x hx => (hg.pos hx).1
  have HF : Hid (∀ f : Nat → Int, Row (w.alloc (.cells (r8 f) 33)) w.heap.size (r8 f) 33 ∧ Fr none' w (w.alloc (.cells (r8 f) 33))) := fun f => ⟨row_alloc _ _ _, (Fr.refl none' w).alloc _⟩
  clear hn hv h f0 h0 hlt hg
  obtain ⟨N, hNl⟩ : ∃ N, N = q.D.length := ⟨_, rfl⟩
  rw [← hNl] at c0 hlen
  have HL : Hid (N = q.D.length) := hNl
  clear hNl
  generalize hld : S.ld = ld at *
  have HLD : Hid (S.ld = ld) := hld
  clear hld
  go_enter Try.func39, Try.ntmps39
  go_wp2_with fail
  refine X.mono ?_
  clear X
  rintro e w1 ⟨rfl, i, rfl, hp⟩
  rcases hp with ⟨hn, rfl⟩ | ⟨j, y, hj, hid, hf, rfl⟩
  · have HE : Hid (bkF S = fun _ => 0) := bk_none (by rw [HLD.out]; exact hn)
    have HZ := HF.out (fun _ => 0)
    have HZ' : Hid _ := HZ
    dsimp only [r8] at HZ'
    have l1 : ld = -1 := by
      rcases HG.out with h | h
      · exact h
      · obtain ⟨x, hx⟩ := has_iff.1 h
        rw [hx] at hn
        cases hn
    have l0 : decide (ld < 0) = true := decide_eq_true (by omega)
    clear hn HZ l1
    go_wp2_with fail
    refine bodyPost_ret (ret_r8 rfl rfl HZ'.out.1 rfl) rfl ?_
    rw [HE.out]
    exact ⟨rfl, HZ'.out.2⟩
  · have hjN : j < N := by
      rw [HL.out]
      rcases Nat.lt_or_ge j q.D.length with h' | h'
      · exact h'
      · rw [List.getElem?_eq_none h'] at hj; cases hj
    obtain ⟨g, rfl, hc, hz⟩ := HN.out j y hj
    have hgw := HLT.out j y hj g rfl
    have hg1 : g ≠ w.heap.size := by omega
    have hg2 : w.heap.size ≠ g := by omega
    have l0 : decide (ld < 0) = false := decide_eq_false (by have := HP.out y.1 hf; omega)
    have HE : Hid (bkF S = y.1.sy) := bk_some (by rw [HLD.out]; exact hf)
    have j0 : decide ((j : Int) < 0) = false := decide_eq_false (by omega)
    have HZ := HF.out y.1.sy
    have HZ' : Hid _ := HZ
    dsimp only [r8] at HZ'
    have d0 := hc 2 _ rfl
    have d1 := hc 3 _ rfl
    have d2 := hc 4 _ rfl
    have d3 := hc 5 _ rfl
    have d4 := hc 6 _ rfl
    have d5 := hc 7 _ rfl
    have d6 := hc 8 _ rfl
    have d7 := hc 9 _ rfl
    clear hc hz hj hid hf HZ hgw
    go_wp2_with fail
    refine bodyPost_ret (ret_r8 rfl rfl HZ'.out.1 rfl) rfl ?_
    rw [HE.out]
    exact ⟨rfl, HZ'.out.2⟩

/-! ### registers of interrupts compared -/
/-- A slice's address that leads to these registers. -/
def LrA (w : World) (a : Option Addr) (L : List Lr) : Prop :=
  ∀ i x, L[i]? = some x → ∃ g, a = some ⟨g, 0, none⟩ ∧ w.cell? ⟨g, i * 5, none⟩ = some (.int .i64 x.id) ∧ w.cell? ⟨g, i * 5 + 1, none⟩ = some (.int .i64 x.p) ∧ w.cell? ⟨g, i * 5 + 2, none⟩ = some (.bool x.lv) ∧ w.cell? ⟨g, i * 5 + 3, none⟩ = some (.bool x.pe) ∧ w.cell? ⟨g, i * 5 + 4, none⟩ = some (.bool x.ac)
theorem LrS.open {w : World} {B : Nat} {v : Value} {L : List Lr} (h : LrS w B v L) : ∃ a cap, v = .slice a L.length cap ∧ LrA w a L := by
  rcases h with ⟨rfl, rfl⟩ | ⟨g, cap, cs, rfl, hb, hc, hm, hr, hx⟩
  · exact ⟨none, 0, rfl, fun i x h => by simp at h⟩
  · refine ⟨_, cap, rfl, fun i x h => ?_⟩
    have q := hx i x h
    exact ⟨g, rfl, (hr.cell _).trans q.c0, (hr.cell _).trans q.c1, (hr.cell _).trans q.c2, (hr.cell _).trans q.c3, (hr.cell _).trans q.c4⟩
theorem LrA.keep0 {w w' : World} {a : Option Addr} {L : List Lr} (h : LrA w a L) (f : Fr none' w w') : LrA w' a L := fun i x hi => by
  obtain ⟨g, e, c0, c1, c2, c3, c4⟩ := h i x hi
  exact ⟨g, e, cell_keep f c0 (fun h => h), cell_keep f c1 (fun h => h), cell_keep f c2 (fun h => h), cell_keep f c3 (fun h => h), cell_keep f c4 (fun h => h)⟩
theorem neq_lr (i p : Int) (l e a : Bool) (w : World) : (binOp .neq 66 (.agg #[.int .i64 i, .int .i64 p, .bool l, .bool e, .bool a]) (.agg #[.int .i64 i, .int .i64 p, .bool l, .bool e, .bool a])).run Try.prog w = .ok (.bool false) w := by
  simp [go_sem]
theorem rall_v (w : World) (b : Nat) (S : Vg) (h : IsRv w b S) :
    Calls Try.prog 45 #[.pointer (some ⟨b, 0, none⟩)] w fun e w' => ∃ v, e = .returned v ∧ LrS w' w.heap.size v (allL S) ∧ Fr none' w w' := by
  obtain ⟨⟨T, hT, hR⟩, hg⟩ := h
  exact rall_any w b T S hT hR hg

end Go.Proofs.Ythkieoedidpkaaa
