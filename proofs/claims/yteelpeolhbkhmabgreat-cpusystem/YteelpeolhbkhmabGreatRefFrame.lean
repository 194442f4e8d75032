/-
  The document's Frame over the translation. No statement is proved here.
-/
import Derived.Test.YteelpeolhbkhmabGreatGrow
namespace Go.Proofs.YteelpeolhbkhmabGreat
open Go.RowKit

theorem IsRef.drew {w : World} {p bf nf : Nat} {bs : List UInt8} (h : IsRef w p bf nf bs) : IsRef w.drew p bf nf bs := ⟨h.head, h.row, h.len, h.most, h.apart⟩

/-- A builtin 'append' by its run equation. -/
theorem wpList_append_run {P : Program} {w : World} {ops : Array Oper} {rest : List Oper} {o : Oper} {a : Act} {Q : Exit → Act → World → Prop} (hgd : o.guard = none) (s x : Operand) (t : TypeId)
    (ho : o.op = .call { callee := .builtin .append, args := #[s, x], argTypes := #[t, t] }) (vs vx : Value) (hs : a.eval s = vs) (hx : a.eval x = vx) (v' : Value) (w' : World)
    (hrun : (Builtin.append_ #[t, t] o.type #[vs, vx]).run P w = .ok v' w') (h : wpList P ops Q rest (a.put o.dst v') w') : wpList P ops Q (o :: rest) a w := by
  refine wpList_plain hgd fun K hK => ?_
  unfold Oper.wp
  simp [execOp, ho, resolve, invoke, builtin, hs, hx, hrun, Result.andThen]
  exact hK _ _ h

theorem bytes_frame {w : World} {p bf nf : Nat} {bs : List UInt8} (h : IsRef w p bf nf bs) (n : Nat) (hn : n < nf) (c m : Nat) (hm : m = 64) : Bytes w (some ⟨bf, 64 * n, none⟩) m c (frameOf bs n) := by
  have hl := length_frameOf bs n nf h.len hn
  have hle := h.len
  refine ⟨by rw [hl, hm], fun _ => ⟨_, rfl, fun j hj => ?_⟩, fun e => by simp at e⟩
  rw [add_lit', h.row.cell, byteVals_get bs _ (by omega), frameOf_get bs n nf j h.len hn]
  simp only [Nat.mul_comm]

theorem ret_slice_len {g a b c : Nat} {e : Int} (h : a = b) : Ending.returned (.tuple #[.slice (some ⟨g, 0, none⟩) a c, .int .i64 e]) = .returned (.tuple #[.slice (some ⟨g, 0, none⟩) b c, .int .i64 e]) := by rw [h]

end Go.Proofs.YteelpeolhbkhmabGreat
