/-
  Slices of structs of the call's own, as lists. No statement is proved here.
-/
import Derived.Test.YthkieoedidpkaaaVcPr
import Derived.Laws.AppendOwnNone
import Derived.Deep.CutBlock
import Derived.Deep.CutRange
namespace Go.Proofs.Ythkieoedidpkaaa
open Go.RowKit Go.Maps Go.WideMaps

theorem ownsRow_at {w w' : World} {B n k : Nat} {e : TypeId} {v : Value} {xs : List Value} (h : w.ownsRow B e k v n xs) (hk : ∀ q, some q = v.ownBlock → q < w.heap.size → w'.heap[q]? = w.heap[q]?) : w'.ownsRow B e k v n xs := by
  obtain ⟨hl, h | ⟨g, cap, cur, hv, hb, hg, hc, hm, hs, ht⟩⟩ := h
  · exact ⟨hl, Or.inl h⟩
  · exact ⟨hl, Or.inr ⟨g, cap, cur, hv, hb, (hk g (by rw [hv]; rfl) (Row.lt (show Row w g cur e from hg))).trans hg, hc, hm, hs, ht⟩⟩
theorem own_rowB {w : World} {e : TypeId} {k n B : Nat} {v : Value} {xs : List Value} (h : w.ownsRow B e k v n xs) {g : Nat} (hg : some g = v.ownBlock) : B ≤ g ∧ ∃ cur, Row w g cur e := by
  obtain ⟨_, h | ⟨g', cap, cur, hv, hb, hr, _⟩⟩ := h
  · rw [h.1] at hg; simp [Value.ownBlock] at hg
  · rw [hv] at hg
    obtain rfl : g = g' := by simpa [Value.ownBlock] using hg
    exact ⟨hb, cur, hr⟩
section
variable {α : Type} {enc : α → List Value} {k : Nat}
/-- A slice of the call's own: l's elements, k cells each. -/
def FL (e : TypeId) (k : Nat) (enc : α → List Value) (B : Nat) (w : World) (v : Value) (l : List α) : Prop := w.ownsRow B e k v l.length (l.flatMap enc)
theorem ff_len (hk : ∀ x, (enc x).length = k) (l : List α) : (l.flatMap enc).length = l.length * k := by
  induction l with
  | nil => simp
  | cons x l ih => rw [List.flatMap_cons, List.length_append, ih, hk, List.length_cons, Nat.add_mul]; omega
theorem ff_at (hk : ∀ x, (enc x).length = k) : ∀ (l : List α) (i : Nat) (x : α), l[i]? = some x → ∀ r, r < k → (l.flatMap enc)[i * k + r]? = (enc x)[r]?
  | [], i, x, h, r, hr => by simp at h
  | y :: l, 0, x, h, r, hr => by
    simp at h; subst h
    rw [List.flatMap_cons, Nat.zero_mul, Nat.zero_add, List.getElem?_append_left (by rw [hk]; exact hr)]
  | y :: l, i + 1, x, h, r, hr => by
    have e : (i + 1) * k + r = k + (i * k + r) := by rw [Nat.add_mul]; omega
    rw [List.flatMap_cons, List.getElem?_append_right (by rw [hk, e]; omega), hk, e, Nat.add_sub_cancel_left]
    exact ff_at hk l i x (by simpa using h) r hr
variable {e : TypeId} {B : Nat} {w w' : World} {v : Value} {l : List α}
theorem fl_nil (e : TypeId) (k B : Nat) (enc : α → List Value) (w : World) : FL e k enc B w (.slice none 0 0) [] := ⟨by simp, Or.inl ⟨rfl, rfl⟩⟩
theorem FL.at (h : FL e k enc B w v l) (hk : ∀ q, some q = v.ownBlock → q < w.heap.size → w'.heap[q]? = w.heap[q]?) : FL e k enc B w' v l := ownsRow_at h hk
theorem FL.keep0 (h : FL e k enc B w v l) (f : Fr none' w w') : FL e k enc B w' v l := ownsRow_at h fun q _ hl => f.block q hl (fun h => h)
theorem FL.low {B' : Nat} (h : FL e k enc B w v l) (hb : B' ≤ B) : FL e k enc B' w v l := by
  obtain ⟨hl, h | ⟨g, cap, cur, hv, hb', r⟩⟩ := h
  · exact ⟨hl, Or.inl h⟩
  · exact ⟨hl, Or.inr ⟨g, cap, cur, hv, by omega, r⟩⟩
theorem FL.blk (h : FL e k enc B w v l) {q : Nat} (hq : some q = v.ownBlock) : B ≤ q ∧ q < w.heap.size ∧ ∃ cur, Row w q cur e := by
  obtain ⟨h1, cur, r⟩ := own_rowB h hq
  exact ⟨h1, r.lt, cur, r⟩
/-- A slice, and each element's cells. -/
theorem FL.form (hk : ∀ x, (enc x).length = k) (h : FL e k enc B w v l) : ∃ (a : Option Addr) (cap : Nat), v = .slice a l.length cap ∧ ∀ i x, l[i]? = some x → ∃ g, a = some ⟨g, 0, none⟩ ∧ (∀ r u, (enc x)[r]? = some u → w.cell? ⟨g, i * k + r, none⟩ = some u) ∧ ∀ r, w.frozen? ⟨g, r, none⟩ = false := by
  obtain ⟨_, hh | ⟨g, cap, cur, hv, hb, hg, hc, hm, hs, ht⟩⟩ := h
  · obtain ⟨h1, h2⟩ := hh
    refine ⟨none, 0, by rw [h1, h2], fun i x hi => ?_⟩
    rw [List.length_eq_zero_iff.mp h2] at hi
    simp at hi
  · refine ⟨_, cap, hv, fun i x hi => ⟨g, rfl, fun r u hu => ?_, fun r => (show Row w g cur _ from hg).frozen r⟩⟩
    have hlt : i < l.length := by
      rcases Nat.lt_or_ge i l.length with h' | h'
      · exact h'
      · rw [List.getElem?_eq_none h'] at hi; cases hi
    have hr : r < k := by
      rcases Nat.lt_or_ge r k with h' | h'
      · exact h'
      · rw [List.getElem?_eq_none (by rw [hk]; exact h')] at hu; cases hu
    have hm : i * k + r < l.length * k := by
      have := Nat.mul_le_mul_right k hlt
      rw [Nat.succ_mul] at this
      omega
    rw [(show Row w g cur _ from hg).cell, ← hu, ← ff_at hk l i x hi r hr, ← ht, List.getElem?_take, if_pos hm]
    simp
/-- One element more. -/
theorem FL.app {T : TypeId} {bytes : Nat} {z : Value} (hT : Try.prog.underlying T = some (.slice e)) (hi : (Try.prog.info? e).map (fun i => (i.zero, i.size, i.bytes)) = some (some z, k, bytes)) (hz : z.cells.size = k) (hk0 : 0 < k) (hb8 : bytes ≤ 1000) (hk : ∀ x, (enc x).length = k) (h1 : ∀ x u, u ∈ enc x → u.oneCell' = true)
    (h : FL e k enc B w v l) (hn : l.length ≤ 100000) (hB : B ≤ w.heap.size) (x : α) :
    ∃ v' w', (Builtin.append_ #[T, T] T #[v, .slice (some ⟨w.heap.size, 0, none⟩) 1 1]).run Try.prog (w.alloc (.cells (enc x).toArray e)) = .ok v' w' ∧ Fr (fun q => some q = v.ownBlock) w w' ∧ FL e k enc B w' v' (l ++ [x]) ∧ (∀ q, some q = v'.ownBlock → some q = v.ownBlock ∨ w.heap.size ≤ q) := by
  have f0 := (Fr.refl none' w).alloc (.cells (enc x).toArray e)
  have r0 := row_alloc w (enc x).toArray e
  cases hq : Try.prog.info? e with
  | none => simp [hq] at hi
  | some i =>
    rw [hq] at hi
    simp only [Option.map_some, Option.some.injEq, Prod.mk.injEq] at hi
    obtain ⟨hz0, hs, hby⟩ := hi
    obtain ⟨v', w', g1, g2, g3, _, g5⟩ := run_append_own_at (P := Try.prog) (w := w.alloc (.cells (enc x).toArray e)) B T T e i z k bytes hT hq hz0 hs hby hz hk0 v l.length _ (ownsRow_at h fun q _ hl => f0.block q hl (fun h => h)) ⟨w.heap.size, 0, none⟩ 1 1 (enc x) (by rw [hk, Nat.one_mul]) (fun j u hu => by
      rw [add_lit', Nat.zero_add, r0.cell]
      simpa using hu) (h1 x) (by simp only [maxLen]; omega) (Nat.le_trans (Nat.mul_le_mul_left _ hb8) (by omega)) (by have := f0.size; omega)
    refine ⟨v', w', g1, (f0.mono (fun _ _ h => h.elim)).trans (fr_of_grown g3), ?_, fun q hq => ?_⟩
    · unfold FL
      rw [List.flatMap_append, List.length_append]
      simpa using g2
    · rcases g5 with g5 | g5
      · exact Or.inl (hq.trans g5)
      · rw [g5] at hq
        have := Option.some.inj hq
        exact Or.inr (by rw [this, World.size_alloc]; omega)
end

theorem FL.set1 {α : Type} {enc : α → List Value} {e : TypeId} {k B : Nat} (hk : ∀ x, (enc x).length = k) {w : World} {g n cap : Nat} {l : List α} (h : FL e k enc B w (.slice (some ⟨g, 0, none⟩) n cap) l) {j r : Nat} {x y : α} {v : Value} (hj : l[j]? = some x) (hr : r < k) (hy : enc y = (enc x).set r v) : FL e k enc B (w.setCell ⟨g, j * k + r, none⟩ v) (.slice (some ⟨g, 0, none⟩) n cap) (l.set j y) := by
  have hlt : j < l.length := by
    rcases Nat.lt_or_ge j l.length with h' | h'
    · exact h'
    · rw [List.getElem?_eq_none h'] at hj; cases hj
  obtain ⟨hl, hh | ⟨g', cap', cur, hv, hb, hg, hc, hm, hs, ht⟩⟩ := h
  · cases hh.1
  · simp only [Value.slice.injEq, Option.some.injEq, Addr.mk.injEq, and_true] at hv
    obtain ⟨rfl, rfl, rfl⟩ := hv
    have hrow : Row w g cur e := hg
    refine ⟨by rw [ff_len hk, List.length_set], Or.inr ⟨g, cap, cur.setIfInBounds (j * k + r) v, by rw [List.length_set], hb, hrow.setCell _ _, by rw [List.length_set]; exact hc, hm, by simpa using hs, ?_⟩⟩
    rw [List.length_set]
    refine List.ext_getElem? fun i => ?_
    by_cases hi : i < l.length * k
    · have hk0 : 0 < k := by omega
      have hq : i / k < l.length := Nat.div_lt_of_lt_mul (by rw [Nat.mul_comm]; exact hi)
      have hsm : i % k < k := Nat.mod_lt _ hk0
      have hi' : i / k * k + i % k = i := by rw [Nat.mul_comm]; exact Nat.div_add_mod i k
      have hsz : j * k + r < cur.size := by
        rw [hs]
        have h1 := Nat.mul_le_mul_right k (Nat.succ_le_of_lt hlt)
        have h2 := Nat.mul_le_mul_right k hc
        rw [Nat.succ_mul] at h1
        omega
      have cold : cur[i]? = (l.flatMap enc)[i]? := by rw [← ht, List.getElem?_take, if_pos hi]; simp
      have old := ff_at hk l (i / k) _ (List.getElem?_eq_getElem hq) (i % k) hsm
      rw [hi'] at old
      rw [List.getElem?_take, if_pos hi, Array.getElem?_toList, Array.getElem?_setIfInBounds]
      by_cases e1 : i / k = j
      · have ex : l[i / k] = x := by
          have h1 := List.getElem?_eq_getElem hq
          have h2 : l[i / k]? = some x := by rw [e1]; exact hj
          rw [h1] at h2
          exact Option.some.inj h2
        have new := ff_at hk (l.set j y) (i / k) y (by rw [e1, List.getElem?_set, if_pos rfl, if_pos hlt]) (i % k) hsm
        rw [hi'] at new
        rw [new, hy, List.getElem?_set]
        by_cases e2 : r = i % k
        · have : j * k + r = i := by rw [← e1, e2]; exact hi'
          rw [if_pos this, if_pos (by omega), if_pos e2, if_pos (by rw [hk]; exact hr)]
        · have : ¬ j * k + r = i := fun h' => e2 (by rw [← e1] at h'; omega)
          rw [if_neg this, if_neg e2, cold, old, ex]
      · have new := ff_at hk (l.set j y) (i / k) l[i / k] (by rw [List.getElem?_set, if_neg (fun h' => e1 h'.symm)]; exact List.getElem?_eq_getElem hq) (i % k) hsm
        rw [hi'] at new
        have : ¬ j * k + r = i := fun h' => e1 (by rw [← h', Nat.mul_comm, Nat.mul_add_div hk0, Nat.div_eq_of_lt hr, Nat.add_zero])
        rw [new, if_neg this, cold, old]
    · rw [List.getElem?_eq_none (by rw [List.length_take]; omega), List.getElem?_eq_none (by rw [ff_len hk, List.length_set]; omega)]

section
variable {w w1 : World}
theorem fl_set {α : Type} {enc : α → List Value} {e : TypeId} {k B : Nat} {v : Value} {l : List α} (h : FL e k enc B w v l) {b i : Nat} {x : Value} {cs : Array Value} {ty : TypeId} (r : Row w b cs ty) (ht : ty ≠ e) : FL e k enc B (w.setCell ⟨b, i, none⟩ x) v l :=
  h.at fun j hj hl => (fr_set w b i x (Fr.refl _ w)).block j hl (fun e' => by
    have e' : j = b := e'
    subst e'
    obtain ⟨_, _, cur, r'⟩ := h.blk hj
    exact ht (row_ty r r'))
theorem fl_other {α β : Type} {enc : α → List Value} {enc' : β → List Value} {e e' : TypeId} {k k' B B' : Nat} {v v' : Value} {l : List α} {l' : List β} (h : FL e k enc B w v l) (h' : FL e' k' enc' B' w v' l') (ht : e ≠ e') (f : Fr (fun q => some q = v'.ownBlock) w w1) : FL e k enc B w1 v l :=
  h.at fun j hj hl => f.block j hl (fun e2 => by
    obtain ⟨_, _, cur, r⟩ := h.blk hj
    obtain ⟨_, _, cur', r'⟩ := h'.blk e2
    exact ht (row_ty r r'))
end

end Go.Proofs.Ythkieoedidpkaaa
