/-
  Lists of numbers of the call's own. No statement is proved here.
-/
import Derived.Test.YtcenojdcmmflaaaGicActs
import Derived.Laws.AppendOwnNone
import Derived.Lib.SliceRun
namespace Go.Proofs.Ytcenojdcmmflaaa
open Go.RowKit

theorem info3 : (Try.prog.info? 3).map (fun i => (i.zero, i.size, i.bytes)) = some (some (.int .i64 0), 1, 8) := by kernel_rfl

theorem wpList_append_run {P : Program} {w : World} {ops : Array Oper} {rest : List Oper} {o : Oper} {a : Act} {Q : Exit → Act → World → Prop} (hgd : o.guard = none) (s x : Operand) (t : TypeId)
    (ho : o.op = .call { callee := .builtin .append, args := #[s, x], argTypes := #[t, t] }) (vs vx : Value) (hs : a.eval s = vs) (hx : a.eval x = vx) (v' : Value) (w' : World)
    (hrun : (Builtin.append_ #[t, t] o.type #[vs, vx]).run P w = .ok v' w') (h : wpList P ops Q rest (a.put o.dst v') w') : wpList P ops Q (o :: rest) a w := by
  refine wpList_plain hgd fun K hK => ?_
  unfold Oper.wp
  simp [execOp, ho, resolve, invoke, builtin, hs, hx, hrun, Result.andThen]
  exact hK _ _ h

/-- A slice of the call's own that holds these numbers. -/
def OwnI (w : World) (B : Nat) (v : Value) (L : List Int) : Prop := w.ownsRow B 3 1 v L.length (L.map (Value.int .i64)) ∧ (L = [] → v = .slice none 0 0)

theorem own_nil (w : World) (B : Nat) : OwnI w B (.slice none 0 0) [] := ⟨⟨rfl, Or.inl ⟨rfl, rfl⟩⟩, fun _ => rfl⟩

theorem OwnI.at {w w' : World} {B : Nat} {v : Value} {L : List Int} (h : OwnI w B v L) (hk : ∀ k, some k = v.ownBlock → k < w.heap.size → w'.heap[k]? = w.heap[k]?) : OwnI w' B v L := by
  obtain ⟨⟨hl, h | ⟨g, cap, cur, hv, hb, hg, hc, hm, hs, ht⟩⟩, hn⟩ := h
  · exact ⟨⟨hl, Or.inl h⟩, hn⟩
  · exact ⟨⟨hl, Or.inr ⟨g, cap, cur, hv, hb, (hk g (by rw [hv]; rfl) (Row.lt (show Row w g cur 3 from hg))).trans hg, hc, hm, hs, ht⟩⟩, hn⟩

theorem OwnI.keep {S : Nat → Prop} {w w' : World} {B : Nat} {v : Value} {L : List Int} (h : OwnI w B v L) (f : Fr S w w') (hs : ∀ k, some k = v.ownBlock → ¬ S k) : OwnI w' B v L :=
  h.at fun k hk hl => f.block k hl (hs k hk)
theorem OwnI.keep0 {w w' : World} {B : Nat} {v : Value} {L : List Int} (h : OwnI w B v L) (f : Fr none' w w') : OwnI w' B v L := h.keep f (fun _ _ h => h)
theorem OwnI.mono {w : World} {B B' : Nat} {v : Value} {L : List Int} (h : OwnI w B v L) (hb : B' ≤ B) : OwnI w B' v L := by
  obtain ⟨⟨hl, h | ⟨g, cap, cur, hv, hb', hg, hc, hm, hs, ht⟩⟩, hn⟩ := h
  · exact ⟨⟨hl, Or.inl h⟩, hn⟩
  · exact ⟨⟨hl, Or.inr ⟨g, cap, cur, hv, by omega, hg, hc, hm, hs, ht⟩⟩, hn⟩
theorem OwnI.high {w : World} {B : Nat} {v : Value} {L : List Int} (h : OwnI w B v L) (k : Nat) (hk : some k = v.ownBlock) : B ≤ k := by
  obtain ⟨⟨_, h | ⟨g, cap, cur, hv, hb, _⟩⟩, _⟩ := h
  · rw [h.1] at hk; simp [Value.ownBlock] at hk
  · rw [hv] at hk; simp [Value.ownBlock] at hk; omega
/-- A block of another type is not the slice's. -/
theorem OwnI.apart {w : World} {B b : Nat} {v : Value} {L : List Int} {cs : Array Value} {t : TypeId} (h : OwnI w B v L) (r : Row w b cs t) (ht : t ≠ 3) : some b ≠ v.ownBlock := by
  obtain ⟨⟨hl, h | ⟨g, cap, cur, hv, hb, hg, _⟩⟩, _⟩ := h
  · rw [h.1]; simp [Value.ownBlock]
  · rw [hv]
    intro e
    have e' : b = g := by simpa [Value.ownBlock] using e
    subst e'
    have r' : w.heap[b]? = some (.cells cs t (0, 0)) := r
    rw [hg] at r'
    simp only [Option.some.injEq, Obj.cells.injEq] at r'
    exact ht r'.2.1.symm
/-- The slice's block told whole. -/
theorem OwnI.row {w : World} {B : Nat} {v : Value} {L : List Int} (h : OwnI w B v L) (hL : L ≠ []) :
    ∃ g cap cur, v = .slice (some ⟨g, 0, none⟩) L.length cap ∧ B ≤ g ∧ Row w g cur 3 ∧ L.length ≤ cap ∧ cap ≤ maxLen ∧ cur.size = cap ∧ ∀ (j : Nat) (x : Int), L[j]? = some x → cur[j]? = some (Value.int .i64 x) := by
  obtain ⟨⟨hl, h | ⟨g, cap, cur, hv, hb, hg, hc, hm, hs, ht⟩⟩, _⟩ := h
  · exact absurd (List.length_eq_zero_iff.1 h.2) hL
  · refine ⟨g, cap, cur, hv, hb, hg, hc, hm, by omega, fun j x hj => ?_⟩
    have : (cur.toList.take (L.length * 1))[j]? = some (Value.int .i64 x) := by rw [ht]; simp [hj]
    rw [List.getElem?_take] at this
    split at this
    · simpa using this
    · simp at this

theorem own_of_row {w : World} {B g cap : Nat} {cur : Array Value} {L : List Int} (hb : B ≤ g) (r : Row w g cur 3) (hc : L.length ≤ cap) (hm : cap ≤ maxLen) (hs : cur.size = cap) (hL : L ≠ []) (hj : ∀ (j : Nat) (x : Int), L[j]? = some x → cur[j]? = some (Value.int .i64 x)) :
    OwnI w B (.slice (some ⟨g, 0, none⟩) L.length cap) L := by
  refine ⟨⟨by simp, Or.inr ⟨g, cap, cur, rfl, hb, r, hc, hm, by omega, ?_⟩⟩, fun h => absurd h hL⟩
  apply List.ext_getElem?
  intro j
  rw [List.getElem?_take, List.getElem?_map]
  by_cases h : j < L.length
  · rw [if_pos (by omega), List.getElem?_eq_getElem h]
    have := hj j L[j] (List.getElem?_eq_getElem h)
    simpa using this
  · rw [if_neg (by omega), List.getElem?_eq_none (by omega)]
    rfl

theorem fr_of_grown {w w' : World} {row : Option Nat} (h : w.grownBy w' row) : Fr (fun k => some k = row) w w' :=
  ⟨h.os, h.tape, h.output, h.size, fun k hk hn => h.block k hk hn⟩

theorem Fr.own {w w1 w2 : World} {v : Value} {L : List Int} (f : Fr none' w w1) (g : Fr (fun q => some q = v.ownBlock) w1 w2) (o : OwnI w1 w.heap.size v L) : Fr none' w w2 :=
  ⟨g.os.trans f.os, g.tape.trans f.tape, g.output.trans f.output, Nat.le_trans f.size g.size, fun i hi hn => (g.block i (Nat.lt_of_lt_of_le hi f.size) (fun e => by have := o.high i e; omega)).trans (f.block i hi hn)⟩

/-- One number more. -/
theorem append_int (w : World) (B : Nat) (a : Addr) (v : Value) (L : List Int) (x : Int) (hb : B ≤ w.heap.size) (ho : OwnI w B v L) (hk : L.length < 1000) (c0 : w.cell? (a.add 0) = some (.int .i64 x)) :
    ∃ v' w', (Builtin.append_ #[44, 44] 44 #[v, .slice (some a) 1 1]).run Try.prog w = .ok v' w' ∧ Fr (fun q => some q = v.ownBlock) w w' ∧ OwnI w' B v' (L ++ [x]) := by
  obtain ⟨ho, hn⟩ := ho
  have hi := info3
  cases hq : Try.prog.info? 3 with
  | none => simp [hq] at hi
  | some i =>
    rw [hq] at hi
    simp only [Option.map_some, Option.some.injEq, Prod.mk.injEq] at hi
    obtain ⟨hz, hs, hby⟩ := hi
    obtain ⟨v', w', h1, h2, h3, _⟩ := run_append_own (P := Try.prog) w B 44 44 3 i _ 1 8 Try.underlying44 hq hz hs hby rfl (by omega) v L.length (L.map (Value.int .i64)) ho a 1 1 [.int .i64 x] rfl
      (fun j u hu => by
        match j, hu with
        | 0, hu => simp at hu; rw [c0, hu]
        | j + 1, hu => simp at hu)
      (fun u hu => by simp at hu; subst hu; simp [Value.oneCell'])
      (by simp only [maxLen]; omega) (by omega) hb
    refine ⟨v', w', h1, fr_of_grown h3, ?_, fun h => by simp at h⟩
    have e1 : (L ++ [x]).length = L.length + 1 := by simp
    have e2 : (L ++ [x]).map (Value.int .i64) = L.map (Value.int .i64) ++ [.int .i64 x] := by simp
    rw [e1, e2]
    exact h2

end Go.Proofs.Ytcenojdcmmflaaa
