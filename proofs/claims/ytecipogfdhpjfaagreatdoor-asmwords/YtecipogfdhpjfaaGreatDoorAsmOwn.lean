/-
  Slices of the call's own, of elements of so many cells. No statement is proved here.
-/
import Derived.Test.YtecipogfdhpjfaaGreatDoorAsmEnv
import Derived.Laws.AppendOwnNone
namespace Go.Proofs.YtecipogfdhpjfaaGreatDoor
open Go.RowKit

theorem wpList_append_runK {P : Program} {w : World} {ops : Array Oper} {rest : List Oper} {o : Oper} {a : Act} {Q : Exit → Act → World → Prop} (hgd : o.guard = none) (s x : Operand) (t : TypeId)
    (ho : o.op = .call { callee := .builtin .append, args := #[s, x], argTypes := #[t, t] }) (vs vx : Value) (hs : a.eval s = vs) (hx : a.eval x = vx) (v' : Value) (w' : World)
    (hrun : (Builtin.append_ #[t, t] o.type #[vs, vx]).run P w = .ok v' w') (h : wpList P ops Q rest (a.put o.dst v') w') : wpList P ops Q (o :: rest) a w := by
  refine wpList_plain hgd fun K hK => ?_
  unfold Oper.wp
  simp [execOp, ho, resolve, invoke, builtin, hs, hx, hrun, Result.andThen]
  exact hK _ _ h

/-- A slice of the call's own: n elements of type e, k cells each. -/
def OwnK (e : TypeId) (k : Nat) (w : World) (B : Nat) (v : Value) (n : Nat) (L : List Value) : Prop := w.ownsRow B e k v n L ∧ (n = 0 → v = .slice none 0 0)

theorem ownk_nil (e : TypeId) (k : Nat) (w : World) (B : Nat) : OwnK e k w B (.slice none 0 0) 0 [] := ⟨⟨by simp, Or.inl ⟨rfl, rfl⟩⟩, fun _ => rfl⟩

theorem OwnK.at {e : TypeId} {k : Nat} {w w' : World} {B : Nat} {v : Value} {n : Nat} {L : List Value} (h : OwnK e k w B v n L) (hk : ∀ q, some q = v.ownBlock → q < w.heap.size → w'.heap[q]? = w.heap[q]?) : OwnK e k w' B v n L := by
  obtain ⟨⟨hl, h | ⟨g, cap, cur, hv, hb, hg, hc, hm, hs, ht⟩⟩, hn⟩ := h
  · exact ⟨⟨hl, Or.inl h⟩, hn⟩
  · exact ⟨⟨hl, Or.inr ⟨g, cap, cur, hv, hb, (hk g (by rw [hv]; rfl) (Row.lt (show Row w g cur e from hg))).trans hg, hc, hm, hs, ht⟩⟩, hn⟩
theorem OwnK.keep {e : TypeId} {k : Nat} {S : Nat → Prop} {w w' : World} {B : Nat} {v : Value} {n : Nat} {L : List Value} (h : OwnK e k w B v n L) (f : Fr S w w') (hs : ∀ q, some q = v.ownBlock → ¬ S q) : OwnK e k w' B v n L :=
  h.at fun q hq hl => f.block q hl (hs q hq)
theorem OwnK.keep0 {e : TypeId} {k : Nat} {w w' : World} {B : Nat} {v : Value} {n : Nat} {L : List Value} (h : OwnK e k w B v n L) (f : Fr none' w w') : OwnK e k w' B v n L := h.keep f (fun _ _ h => h)
theorem OwnK.mono {e : TypeId} {k : Nat} {w : World} {B B' : Nat} {v : Value} {n : Nat} {L : List Value} (h : OwnK e k w B v n L) (hb : B' ≤ B) : OwnK e k w B' v n L := by
  obtain ⟨⟨hl, h | ⟨g, cap, cur, hv, hb', hg, hc, hm, hs, ht⟩⟩, hn⟩ := h
  · exact ⟨⟨hl, Or.inl h⟩, hn⟩
  · exact ⟨⟨hl, Or.inr ⟨g, cap, cur, hv, by omega, hg, hc, hm, hs, ht⟩⟩, hn⟩
theorem OwnK.itset {e : TypeId} {k : Nat} {w : World} {B g p : Nat} {s : ByteArray} {v : Value} {n : Nat} {L : List Value} (h : OwnK e k w B v n L) (i : It w g s p) (q : Nat) : OwnK e k (itSet w g s q) B v n L := by
  obtain ⟨⟨hl, h | ⟨g', cap, cur, hv, hb, hg, hc, hm, hs, ht⟩⟩, hn⟩ := h
  · exact ⟨⟨hl, Or.inl h⟩, hn⟩
  · exact ⟨⟨hl, Or.inr ⟨g', cap, cur, hv, hb, Row.itset (show Row w g' cur e from hg) i q, hc, hm, hs, ht⟩⟩, hn⟩
theorem OwnK.high {e : TypeId} {k : Nat} {w : World} {B : Nat} {v : Value} {n : Nat} {L : List Value} (h : OwnK e k w B v n L) (q : Nat) (hq : some q = v.ownBlock) : B ≤ q := by
  obtain ⟨⟨_, h | ⟨g, cap, cur, hv, hb, _⟩⟩, _⟩ := h
  · rw [h.1] at hq; simp [Value.ownBlock] at hq
  · rw [hv] at hq; simp [Value.ownBlock] at hq; omega
/-- A block of another type is not the slice's. -/
theorem OwnK.apart {e : TypeId} {k : Nat} {w : World} {B b : Nat} {v : Value} {n : Nat} {L : List Value} {cs : Array Value} {t : TypeId} (h : OwnK e k w B v n L) (r : Row w b cs t) (ht : t ≠ e) : some b ≠ v.ownBlock := by
  obtain ⟨⟨hl, h | ⟨g, cap, cur, hv, hb, hg, _⟩⟩, _⟩ := h
  · rw [h.1]; simp [Value.ownBlock]
  · rw [hv]
    intro e1
    have e' : b = g := by simpa [Value.ownBlock] using e1
    subst e'
    have r' : w.heap[b]? = some (.cells cs t (0, 0)) := r
    rw [hg] at r'
    simp only [Option.some.injEq, Obj.cells.injEq] at r'
    exact ht r'.2.1.symm
theorem OwnK.apart_it {e : TypeId} {k : Nat} {w : World} {B b p : Nat} {v : Value} {n : Nat} {L : List Value} {s : ByteArray} (h : OwnK e k w B v n L) (r : It w b s p) : some b ≠ v.ownBlock := by
  obtain ⟨⟨hl, h | ⟨g, cap, cur, hv, hb, hg, _⟩⟩, _⟩ := h
  · rw [h.1]; simp [Value.ownBlock]
  · rw [hv]
    intro e1
    have e' : b = g := by simpa [Value.ownBlock] using e1
    subst e'
    have r' : w.heap[b]? = some (.stringIter s p) := r
    rw [hg] at r'
    simp at r'
/-- The slice's block told whole. -/
theorem OwnK.row {e : TypeId} {k : Nat} {w : World} {B : Nat} {v : Value} {n : Nat} {L : List Value} (h : OwnK e k w B v n L) (hn : n ≠ 0) :
    ∃ g cap cur, v = .slice (some ⟨g, 0, none⟩) n cap ∧ B ≤ g ∧ Row w g cur e ∧ n ≤ cap ∧ cap ≤ maxLen ∧ cur.size = cap * k ∧ ∀ (j : Nat) (x : Value), L[j]? = some x → cur[j]? = some x := by
  obtain ⟨⟨hl, h | ⟨g, cap, cur, hv, hb, hg, hc, hm, hs, ht⟩⟩, _⟩ := h
  · exact absurd h.2 hn
  · refine ⟨g, cap, cur, hv, hb, hg, hc, hm, hs, fun j x hj => ?_⟩
    have : (cur.toList.take (n * k))[j]? = some x := by rw [ht]; exact hj
    rw [List.getElem?_take] at this
    split at this
    · simpa using this
    · simp at this
theorem OwnK.len {e : TypeId} {k : Nat} {w : World} {B : Nat} {v : Value} {n : Nat} {L : List Value} (h : OwnK e k w B v n L) : L.length = n * k := h.1.1

theorem fr_of_grownK {w w' : World} {row : Option Nat} (h : w.grownBy w' row) : Fr (fun k => some k = row) w w' :=
  ⟨h.os, h.tape, h.output, h.size, fun k hk hn => h.block k hk hn⟩
theorem Fr.ownK {e : TypeId} {k : Nat} {w w1 w2 : World} {v : Value} {n : Nat} {L : List Value} (f : Fr none' w w1) (g : Fr (fun q => some q = v.ownBlock) w1 w2) (o : OwnK e k w1 w.heap.size v n L) : Fr none' w w2 :=
  ⟨g.os.trans f.os, g.tape.trans f.tape, g.output.trans f.output, Nat.le_trans f.size g.size, fun i hi hn => (g.block i (Nat.lt_of_lt_of_le hi f.size) (fun e => by have := o.high i e; omega)).trans (f.block i hi hn)⟩

/-- One element more. -/
theorem append_k {T e : TypeId} {k bytes : Nat} {z : Value} (hT : Tryz.prog.underlying T = some (.slice e)) (hi : (Tryz.prog.info? e).map (fun i => (i.zero, i.size, i.bytes)) = some (some z, k, bytes)) (hz : z.cells.size = k) (hk : 0 < k) (hb8 : bytes ≤ 1000)
    (w : World) (B : Nat) (a : Addr) (v : Value) (n : Nat) (L news : List Value) (hb : B ≤ w.heap.size) (ho : OwnK e k w B v n L) (hn : n < 10000000) (hl : news.length = k) (hc : ∀ j u, news[j]? = some u → w.cell? (a.add j) = some u) (h1 : ∀ u ∈ news, u.oneCell' = true) :
    ∃ v' w', (Builtin.append_ #[T, T] T #[v, .slice (some a) 1 1]).run Tryz.prog w = .ok v' w' ∧ Fr (fun q => some q = v.ownBlock) w w' ∧ OwnK e k w' B v' (n + 1) (L ++ news) := by
  obtain ⟨ho, _⟩ := ho
  cases hq : Tryz.prog.info? e with
  | none => simp [hq] at hi
  | some i =>
    rw [hq] at hi
    simp only [Option.map_some, Option.some.injEq, Prod.mk.injEq] at hi
    obtain ⟨hz0, hs, hby⟩ := hi
    obtain ⟨v', w', g1, g2, g3, _⟩ := run_append_own (P := Tryz.prog) (w := w) B T T e i z k bytes hT hq hz0 hs hby hz hk v n L ho a 1 1 news (by omega) hc h1 (by simp only [maxLen]; omega) (Nat.le_trans (Nat.mul_le_mul_left _ hb8) (by omega)) hb
    exact ⟨v', w', g1, fr_of_grownK g3, g2, fun h => by omega⟩

end Go.Proofs.YtecipogfdhpjfaaGreatDoor
