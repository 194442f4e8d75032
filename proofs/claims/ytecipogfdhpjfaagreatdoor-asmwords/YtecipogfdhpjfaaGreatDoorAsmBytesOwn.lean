/-
  Bytes of the law's own, grown by texts and by single bytes, and turned into a string. No statement is proved here.
-/
import Derived.Test.YtecipogfdhpjfaaGreatDoorAsmAwake
import Derived.Lib.AppendStr
import Derived.Laws.IdiomStrings
namespace Go.Proofs.YtecipogfdhpjfaaGreatDoor
open Go.RowKit

def byteV (b : UInt8) : Value := .int .u8 (b.toNat : Int)

/-- Since w0 nothing old has turned, and v is a row of the call's own that shows these bytes. -/
def OB (w0 w : World) (v : Value) (L : List UInt8) (k : Nat) : Prop := Fr none' w0 w ∧ w.ownsRow w0.heap.size 5 1 v L.length (L.map byteV) ∧ L.length ≤ k

theorem ob_nil (w : World) : OB w w (.slice none 0 0) [] 0 := ⟨Fr.refl _ _, ⟨by simp, Or.inl ⟨rfl, rfl⟩⟩, Nat.le_refl _⟩

theorem ob_high {w : World} {B : Nat} {v : Value} {n : Nat} {L : List Value} (h : w.ownsRow B 5 1 v n L) (q : Nat) (hq : some q = v.ownBlock) : B ≤ q := by
  obtain ⟨_, h | ⟨g, cap, cur, hv, hb, _⟩⟩ := h
  · rw [h.1] at hq; simp [Value.ownBlock] at hq
  · rw [hv] at hq; simp [Value.ownBlock] at hq; omega

theorem ob_fr {w0 w1 w2 : World} {v : Value} {n : Nat} {L : List Value} (f : Fr none' w0 w1) (g : Fr (fun q => some q = v.ownBlock) w1 w2) (ho : w1.ownsRow w0.heap.size 5 1 v n L) : Fr none' w0 w2 :=
  ⟨g.os.trans f.os, g.tape.trans f.tape, g.output.trans f.output, Nat.le_trans f.size g.size, fun i hi hn => (g.block i (Nat.lt_of_lt_of_le hi f.size) (fun e => by
    have := ob_high ho i e
    omega)).trans (f.block i hi hn)⟩

theorem info_u8 : (Tryz.prog.info? 5).map (fun i => (i.zero, i.size, i.bytes)) = some (some (.int .u8 0), 1, 1) := by kernel_rfl

theorem ob_str {w0 W : World} {v : Value} {L : List UInt8} {k : Nat} (hO : OB w0 W v L k) (z : ByteArray) (zs : List UInt8) (n : Nat) (hz : z.data.toList = zs) (hn : zs.length = n) (hk : k + n ≤ 1000000000) :
    ∃ v' w', (Builtin.append_ #[55, 9] 55 #[v, .string z]).run Tryz.prog W = .ok v' w' ∧ OB w0 w' v' (L ++ zs) (k + n) := by
  obtain ⟨f, ho, hl⟩ := hO
  have hi := info_u8
  cases hq : Tryz.prog.info? 5 with
  | none => simp [hq] at hi
  | some i =>
    rw [hq] at hi
    simp only [Option.map_some, Option.some.injEq, Prod.mk.injEq] at hi
    obtain ⟨hz0, hs, hby⟩ := hi
    have hsz : z.size = n := by rw [← hn, ← hz]; exact (Array.length_toList).symm
    obtain ⟨v', w', h1, h2, h3, _⟩ := Go.Lib.run_append_own_string (P := Tryz.prog) W w0.heap.size 55 9 55 5 i Tryz.underlying55 Tryz.underlying9 hq hz0 hs hby v L.length (L.map byteV) ho z (by simp only [maxLen]; omega) (by omega) f.size
    refine ⟨v', w', h1, ob_fr f (fr_of_grownK h3) ho, ?_, by rw [List.length_append]; omega⟩
    have e2 : (L ++ zs).map byteV = L.map byteV ++ Go.Lib.strCells z := by rw [List.map_append, ← hz]; rfl
    rw [e2, List.length_append, hn, ← hsz]
    exact h2

theorem ob_byte {w0 W : World} {v : Value} {L : List UInt8} {k : Nat} (hO : OB w0 W v L k) (c : UInt8) (hk : k + 1 ≤ 1000000000) :
    ∃ v' w', (Builtin.append_ #[55, 55] 55 #[v, .slice (some ⟨W.heap.size, 0, none⟩) 1 1]).run Tryz.prog (W.alloc (.cells #[.int .u8 (c.toNat : Int)] 5)) = .ok v' w' ∧ OB w0 w' v' (L ++ [c]) (k + 1) := by
  obtain ⟨f, ho, hl⟩ := hO
  have hi := info_u8
  have fa := (Fr.refl none' W).alloc (.cells #[.int .u8 (c.toNat : Int)] 5)
  have hr := row_alloc W #[.int .u8 (c.toNat : Int)] 5
  have ho' : (W.alloc (.cells #[.int .u8 (c.toNat : Int)] 5)).ownsRow w0.heap.size 5 1 v L.length (L.map byteV) := by
    obtain ⟨hl', h | ⟨g, cap, cur, hv, hb, hg, hc, hm, hs, ht⟩⟩ := ho
    · exact ⟨hl', Or.inl h⟩
    · exact ⟨hl', Or.inr ⟨g, cap, cur, hv, hb, (fa.block g (Row.lt (show Row W g cur 5 from hg)) (fun h => h)).trans hg, hc, hm, hs, ht⟩⟩
  cases hq : Tryz.prog.info? 5 with
  | none => simp [hq] at hi
  | some i =>
    rw [hq] at hi
    simp only [Option.map_some, Option.some.injEq, Prod.mk.injEq] at hi
    obtain ⟨hz0, hs, hby⟩ := hi
    obtain ⟨v', w', h1, h2, h3, _⟩ := run_append_own (P := Tryz.prog) (W.alloc (.cells #[.int .u8 (c.toNat : Int)] 5)) w0.heap.size 55 55 5 i _ 1 1 Tryz.underlying55 hq hz0 hs hby rfl (by omega) v L.length (L.map byteV) ho' ⟨W.heap.size, 0, none⟩ 1 1 [byteV c] (by simp)
      (fun j z hz => by
        rw [add_lit', hr.cell]
        match j, hz with
        | 0, hz => simpa [byteV] using hz
        | j + 1, hz => simp at hz)
      (by simp [byteV, Value.oneCell'])
      (by simp only [maxLen]; omega) (by omega) (Nat.le_trans f.size fa.size)
    refine ⟨v', w', h1, ob_fr (f.trans fa) (fr_of_grownK h3) ho', ?_, by rw [List.length_append]; simp; omega⟩
    have e2 : (L ++ [c]).map byteV = L.map byteV ++ [byteV c] := by simp
    rw [e2, List.length_append]
    exact h2

theorem ob_string {w0 W : World} {v : Value} {L : List UInt8} {k : Nat} (hO : OB w0 W v L k) : (convert 55 9 v).run Tryz.prog W = .ok (.string ⟨L.toArray⟩) W := by
  obtain ⟨f, ⟨hl, h | ⟨g, cap, cur, hv, hb, hg, hc, hm, hs, ht⟩⟩, _⟩ := hO
  · have e : L = [] := List.length_eq_zero_iff.1 h.2
    rw [h.1, e]
    simp [convert, run_underlying Tryz.underlying55, run_underlying Tryz.underlying9, Conv.bytesToString]
    rfl
  · rw [hv]
    refine run_convert_bytes_back (P := Tryz.prog) W 55 9 5 ⟨g, 0, none⟩ cap L Tryz.underlying55 Tryz.underlying5 Tryz.underlying9 fun j hj => ?_
    have hr : Row W g cur 5 := hg
    rw [add_lit', Nat.zero_add, hr.cell]
    have : (cur.toList.take (L.length * 1))[j]? = some (byteV L[j]) := by rw [ht]; simp [hj]
    rw [List.getElem?_take, if_pos (by omega)] at this
    simpa [byteV] using this

theorem wpList_append_runT {P : Program} {w : World} {ops : Array Oper} {rest : List Oper} {o : Oper} {a : Act} {Q : Exit → Act → World → Prop} (hgd : o.guard = none) (s x : Operand) (t u : TypeId)
    (ho : o.op = .call { callee := .builtin .append, args := #[s, x], argTypes := #[t, u] }) (vs vx : Value) (hs : a.eval s = vs) (hx : a.eval x = vx) (v' : Value) (w' : World)
    (hrun : (Builtin.append_ #[t, u] o.type #[vs, vx]).run P w = .ok v' w') (h : wpList P ops Q rest (a.put o.dst v') w') : wpList P ops Q (o :: rest) a w := by
  refine wpList_plain hgd fun K hK => ?_
  unfold Oper.wp
  simp [execOp, ho, resolve, invoke, builtin, hs, hx, hrun, Result.andThen]
  exact hK _ _ h

end Go.Proofs.YtecipogfdhpjfaaGreatDoor
