/-
  The document's Frame over the translation. No statement is proved here.
-/
import Derived.Test.YtgnoakidjnilpaaGreatGrow
namespace Go.Proofs.YtgnoakidjnilpaaGreat
open Go.RowKit

theorem IsRef.drew {w : World} {p bf nf : Nat} {bs : List UInt8} (h : IsRef w p bf nf bs) : IsRef w.drew p bf nf bs := ⟨h.head, h.row, h.len, h.most, h.apart⟩

/-- A builtin 'append' by its run equation. -/
theorem wpList_append_run {P : Program} {w : World} {ops : Array Oper} {rest : List Oper} {o : Oper} {a : Act} {Q : Exit → Act → World → Prop} (hgd : o.guard = none) (s x : Operand) (t : TypeId)
    (ho : o.op = .call { callee := .builtin .append, args := #[s, x], argTypes := #[t, t] }) (vs vx : Value) (hs : a.eval s = vs) (hx : a.eval x = vx) (v' : Value) (w' : World)
    (hrun : (Builtin.append_ #[t, t] o.type #[vs, vx]).run P w = .ok v' w') (h : wpList P ops Q rest (a.put o.dst v') w') : wpList P ops Q (o :: rest) a w := by
  refine wpList_plain hgd fun K hK => ?_
  unfold Oper.wp
  simp [execOp, ho, resolve, invoke, builtin, hs, hx, hrun, Result.andThen]
  exact hK _ _ h

theorem bytes_frame {w : World} {p bf nf : Nat} {bs : List UInt8} (h : IsRef w p bf nf bs) (n : Nat) (hn : n < nf) (c m : Nat) (hm : m = 64) : Bytes w (some ⟨bf, 64 * n, none⟩) m c (frameOf bs n) := by
  have hl := length_frameOf bs n nf h.len hn
  have hle := h.len
  refine ⟨by rw [hl, hm], fun _ => ⟨_, rfl, fun j hj => ?_⟩, fun e => by simp at e⟩
  rw [add_lit', h.row.cell, byteVals_get bs _ (by omega), frameOf_get bs n nf j h.len hn]
  simp only [Nat.mul_comm]

theorem ret_slice_len {g a b c : Nat} {e : Int} (h : a = b) : Ending.returned (.tuple #[.slice (some ⟨g, 0, none⟩) a c, .int .i64 e]) = .returned (.tuple #[.slice (some ⟨g, 0, none⟩) b c, .int .i64 e]) := by rw [h]

set_option maxHeartbeats 400000 in
theorem rframe_ok (w : World) (p bf nf : Nat) (bs : List UInt8) (n : Nat) (h : IsRef w p bf nf bs) (hn : n < nf) :
    Calls Tryz.prog 52 #[.pointer (some ⟨p, 0, none⟩), .int .i64 (n : Int)] w fun e w' => ∃ g cap, e = .returned (.tuple #[.slice (some ⟨g, 0, none⟩) 64 cap, .int .i64 0]) ∧ w.heap.size ≤ g ∧ Fr none' w w' ∧ Begins w' g (frameOf bs n) cap := by
  have hm := h.most
  have i1 : 0 ≤ 64 * (n : Int) := by omega
  have i2 : 64 * (n : Int) ≤ 64 * (n : Int) + 64 := by omega
  have i3 : 64 * (n : Int) + 64 ≤ ((64 * nf : Nat) : Int) := by omega
  have c1 := (h.keep ((Fr.refl none' w).alloc (.cells #[] 5)) (fun h => h) (fun h => h)).hcell
  obtain ⟨g, cap, w2, hrun, hg, f2, b2⟩ := append_fresh w 74 _ (64 * n + 64 - 64 * n) (64 * nf - 64 * n) _ (bytes_frame h n hn (64 * nf - 64 * n) (64 * n + 64 - 64 * n) (by omega)) (by omega)
  have HR := hrun
  have HQ : Hid (w.heap.size ≤ g ∧ Fr none' w w2 ∧ Begins w2 g (frameOf bs n) cap) := ⟨hg, f2, b2⟩
  replace HR : Hid ((Builtin.append_ #[74, 74] 74 #[.slice (some ⟨w.heap.size, 0, none⟩) 0 0, .slice (some ⟨bf, 64 * n, none⟩) (64 * n + 64 - 64 * n) (64 * nf - 64 * n)]).run Tryz.prog (w.alloc (.cells #[] 5)) = .ok (.slice (some ⟨g, 0, none⟩) (64 * n + 64 - 64 * n) cap) w2) := hrun
  clear hrun hg f2 b2
  go_enter Tryz.func52, Tryz.ntmps52
  go_wp2_with (first | (go_at_call 112; refine (there_ok _ _ _ _ _ _ h hn).mono ?_; rintro e w' ⟨rfl, rfl⟩) | (at_builtin; refine wpList_append_run rfl _ _ _ rfl _ _ rfl rfl _ _ HR ?_))
  go_ret2
  exact ⟨g, cap, ret_slice_len (by omega), HQ⟩

end Go.Proofs.YtgnoakidjnilpaaGreat
