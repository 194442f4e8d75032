/-
  Slices of the call's own, of elements of so many cells; slices of registers. No statement is proved here.
-/
import Derived.Test.YthkieoedidpkaaaVgSort
import Derived.Laws.AppendOwnNone
namespace Go.Proofs.Ythkieoedidpkaaa
open Go.RowKit

theorem wpList_append_runK {P : Program} {w : World} {ops : Array Oper} {rest : List Oper} {o : Oper} {a : Act} {Q : Exit → Act → World → Prop} (hgd : o.guard = none) (s x : Operand) (t : TypeId)
    (ho : o.op = .call { callee := .builtin .append, args := #[s, x], argTypes := #[t, t] }) (vs vx : Value) (hs : a.eval s = vs) (hx : a.eval x = vx) (v' : Value) (w' : World)
    (hrun : (Builtin.append_ #[t, t] o.type #[vs, vx]).run P w = .ok v' w') (h : wpList P ops Q rest (a.put o.dst v') w') : wpList P ops Q (o :: rest) a w := by
  refine wpList_plain hgd fun K hK => ?_
  unfold Oper.wp
  simp [execOp, ho, resolve, invoke, builtin, hs, hx, hrun, Result.andThen]
  exact hK _ _ h

/-- A slice of the call's own: n elements of type e, k cells each. -/
def OwnK (e : TypeId) (k : Nat) (w : World) (B : Nat) (v : Value) (n : Nat) (L : List Value) : Prop := w.ownsRow B e k v n L ∧ (n = 0 → v = .slice none 0 0)

theorem ownk_nil (e : TypeId) (k : Nat) (w : World) (B : Nat) : OwnK e k w B (.slice none 0 0) 0 [] := ⟨⟨by simp, Or.inl ⟨rfl, rfl⟩⟩, fun _ => rfl⟩

theorem OwnK.at {e : TypeId} {k : Nat} {w w' : World} {B : Nat} {v : Value} {n : Nat} {L : List Value} (h : OwnK e k w B v n L) (hk : ∀ q, some q = v.ownBlock → q < w.heap.size → w'.heap[q]? = w.heap[q]?) : OwnK e k w' B v n L := by
  obtain ⟨⟨hl, h | ⟨g, cap, cur, hv, hb, hg, hc, hm, hs, ht⟩⟩, hn⟩ := h
  · exact ⟨⟨hl, Or.inl h⟩, hn⟩
  · exact ⟨⟨hl, Or.inr ⟨g, cap, cur, hv, hb, (hk g (by rw [hv]; rfl) (Row.lt (show Row w g cur e from hg))).trans hg, hc, hm, hs, ht⟩⟩, hn⟩
theorem OwnK.keep0 {e : TypeId} {k : Nat} {w w' : World} {B : Nat} {v : Value} {n : Nat} {L : List Value} (h : OwnK e k w B v n L) (f : Fr none' w w') : OwnK e k w' B v n L := h.at fun q _ hl => f.block q hl (fun h => h)
theorem OwnK.high {e : TypeId} {k : Nat} {w : World} {B : Nat} {v : Value} {n : Nat} {L : List Value} (h : OwnK e k w B v n L) (q : Nat) (hq : some q = v.ownBlock) : B ≤ q := by
  obtain ⟨⟨_, h | ⟨g, cap, cur, hv, hb, _⟩⟩, _⟩ := h
  · rw [h.1] at hq; simp [Value.ownBlock] at hq
  · rw [hv] at hq; simp [Value.ownBlock] at hq; omega
/-- The slice's block told whole. -/
theorem OwnK.row {e : TypeId} {k : Nat} {w : World} {B : Nat} {v : Value} {n : Nat} {L : List Value} (h : OwnK e k w B v n L) (hn : n ≠ 0) :
    ∃ g cap cur, v = .slice (some ⟨g, 0, none⟩) n cap ∧ B ≤ g ∧ Row w g cur e ∧ n ≤ cap ∧ cap ≤ maxLen ∧ cur.size = cap * k ∧ ∀ (j : Nat) (x : Value), L[j]? = some x → cur[j]? = some x := by
  obtain ⟨⟨hl, h | ⟨g, cap, cur, hv, hb, hg, hc, hm, hs, ht⟩⟩, _⟩ := h
  · exact absurd h.2 hn
  · refine ⟨g, cap, cur, hv, hb, hg, hc, hm, hs, fun j x hj => ?_⟩
    have : (cur.toList.take (n * k))[j]? = some x := by rw [ht]; exact hj
    rw [List.getElem?_take] at this
    split at this
    · simpa using this
    · simp at this

theorem Fr.ownK {e : TypeId} {k : Nat} {w w1 w2 : World} {v : Value} {n : Nat} {L : List Value} (f : Fr none' w w1) (g : Fr (fun q => some q = v.ownBlock) w1 w2) (o : OwnK e k w1 w.heap.size v n L) : Fr none' w w2 :=
  ⟨g.os.trans f.os, g.tape.trans f.tape, g.output.trans f.output, Nat.le_trans f.size g.size, fun i hi hn => (g.block i (Nat.lt_of_lt_of_le hi f.size) (fun e => by have := o.high i e; omega)).trans (f.block i hi hn)⟩

/-- One element more. -/
theorem append_k {T e : TypeId} {k bytes : Nat} {z : Value} (hT : Try.prog.underlying T = some (.slice e)) (hi : (Try.prog.info? e).map (fun i => (i.zero, i.size, i.bytes)) = some (some z, k, bytes)) (hz : z.cells.size = k) (hk : 0 < k) (hb8 : bytes ≤ 1000)
    (w : World) (B : Nat) (a : Addr) (v : Value) (n : Nat) (L news : List Value) (hb : B ≤ w.heap.size) (ho : OwnK e k w B v n L) (hn : n < 10000000) (hl : news.length = k) (hc : ∀ j u, news[j]? = some u → w.cell? (a.add j) = some u) (h1 : ∀ u ∈ news, u.oneCell' = true) :
    ∃ v' w', (Builtin.append_ #[T, T] T #[v, .slice (some a) 1 1]).run Try.prog w = .ok v' w' ∧ Fr (fun q => some q = v.ownBlock) w w' ∧ OwnK e k w' B v' (n + 1) (L ++ news) := by
  obtain ⟨ho, _⟩ := ho
  cases hq : Try.prog.info? e with
  | none => simp [hq] at hi
  | some i =>
    rw [hq] at hi
    simp only [Option.map_some, Option.some.injEq, Prod.mk.injEq] at hi
    obtain ⟨hz0, hs, hby⟩ := hi
    obtain ⟨v', w', g1, g2, g3, _⟩ := run_append_own (P := Try.prog) (w := w) B T T e i z k bytes hT hq hz0 hs hby hz hk v n L ho a 1 1 news (by omega) hc h1 (by simp only [maxLen]; omega) (Nat.le_trans (Nat.mul_le_mul_left _ hb8) (by omega)) hb
    exact ⟨v', w', g1, fr_of_grown g3, g2, fun h => by omega⟩

/-! ### slices of registers -/
def flatV (L : List Lr) : List Value := L.flatMap encL
theorem flatV_append (L M : List Lr) : flatV (L ++ M) = flatV L ++ flatV M := by simp [flatV]
theorem flatV_one (x : Lr) : flatV [x] = encL x := by simp [flatV]
theorem flatV_len (L : List Lr) : (flatV L).length = L.length * 5 := by
  induction L with
  | nil => rfl
  | cons x L ih =>
    have : flatV (x :: L) = encL x ++ flatV L := by simp [flatV]
    rw [this, List.length_append, ih]
    simp [encL]
    omega
theorem flatV_at : ∀ (L : List Lr) (i : Nat) (x : Lr), L[i]? = some x → ∀ r, r < 5 → (flatV L)[i * 5 + r]? = some (encL x)[r]!
  | y :: L, 0, x, h, r, hr => by
    simp at h
    subst h
    have : flatV (y :: L) = encL y ++ flatV L := by simp [flatV]
    rw [this, Nat.zero_mul, Nat.zero_add, List.getElem?_append_left (by simp [encL]; omega)]
    match r, hr with
    | 0, _ => rfl
    | 1, _ => rfl
    | 2, _ => rfl
    | 3, _ => rfl
    | 4, _ => rfl
  | y :: L, i + 1, x, h, r, hr => by
    have : flatV (y :: L) = encL y ++ flatV L := by simp [flatV]
    have e : (encL y).length = 5 := rfl
    rw [this, List.getElem?_append_right (by omega), e, show (i + 1) * 5 + r - 5 = i * 5 + r by omega]
    exact flatV_at L i x (by simpa using h) r hr
  | [], i, x, h, _, _ => by simp at h

theorem rec_of {cur : Array Value} {L : List Lr} (hx : ∀ (j : Nat) (x : Value), (flatV L)[j]? = some x → cur[j]? = some x) (i : Nat) (x : Lr) (h : L[i]? = some x) : RecAt cur i x := by
  have q := fun r hr => hx _ _ (flatV_at L i x h r hr)
  exact ⟨q 0 (by omega), q 1 (by omega), q 2 (by omega), q 3 (by omega), q 4 (by omega)⟩

/-- A slice that holds these registers: nil, or a block that begins with them. -/
def LrS (w : World) (B : Nat) (v : Value) (L : List Lr) : Prop :=
  (L = [] ∧ v = .slice none 0 0) ∨ ∃ g cap cs, v = .slice (some ⟨g, 0, none⟩) L.length cap ∧ B ≤ g ∧ L.length ≤ cap ∧ cap ≤ maxLen ∧ Row w g cs 66 ∧ ∀ i x, L[i]? = some x → RecAt cs i x

theorem LrS.keep {S : Nat → Prop} {w w' : World} {B : Nat} {v : Value} {L : List Lr} (h : LrS w B v L) (f : Fr S w w') (hs : ∀ k, B ≤ k → ¬ S k) : LrS w' B v L := by
  rcases h with h | ⟨g, cap, cs, h1, hb, h2, h3, h4, h5⟩
  · exact Or.inl h
  · exact Or.inr ⟨g, cap, cs, h1, hb, h2, h3, h4.keep f (hs g hb), h5⟩
theorem LrS.keep0 {w w' : World} {B : Nat} {v : Value} {L : List Lr} (h : LrS w B v L) (f : Fr none' w w') : LrS w' B v L := h.keep f (fun _ _ h => h)
theorem LrS.mono {w : World} {B B' : Nat} {v : Value} {L : List Lr} (h : LrS w B v L) (hb : B' ≤ B) : LrS w B' v L := by
  rcases h with h | ⟨g, cap, cs, h1, hb', h2, h3, h4, h5⟩
  · exact Or.inl h
  · exact Or.inr ⟨g, cap, cs, h1, by omega, h2, h3, h4, h5⟩
theorem LrS.slice {w : World} {B : Nat} {v : Value} {L : List Lr} (h : LrS w B v L) : ∃ a cap, v = .slice a L.length cap := by
  rcases h with ⟨rfl, rfl⟩ | ⟨g, cap, cs, rfl, _⟩
  · exact ⟨_, _, rfl⟩
  · exact ⟨_, _, rfl⟩

theorem info_lr : (Try.prog.info? 66).map (fun i => (i.zero, i.size, i.bytes)) = some (some (.agg #[.int .i64 0, .int .i64 0, .bool false, .bool false, .bool false]), 5, 24) := by kernel_rfl

/-- One register more. -/
theorem append_lr (w : World) (B g : Nat) (v : Value) (L : List Lr) (x : Lr) (hb : B ≤ w.heap.size) (ho : OwnK 66 5 w B v L.length (flatV L)) (hn : L.length < 1000) (r : Row w g #[.int .i64 x.id, .int .i64 x.p, .bool x.lv, .bool x.pe, .bool x.ac] 66) :
    ∃ v' w', (Builtin.append_ #[63, 63] 63 #[v, .slice (some ⟨g, 0, none⟩) 1 1]).run Try.prog w = .ok v' w' ∧ Fr (fun q => some q = v.ownBlock) w w' ∧ OwnK 66 5 w' B v' (L ++ [x]).length (flatV (L ++ [x])) := by
  obtain ⟨v', w', h1, h2, h3⟩ := append_k (T := 63) Try.underlying63 info_lr rfl (by omega) (by omega) w B ⟨g, 0, none⟩ v L.length (flatV L) (encL x) hb ho (by omega) rfl (fun j u hu => by
    rw [add_lit', Nat.zero_add, r.cell]
    match j, hu with
    | 0, hu => simpa [encL] using hu
    | 1, hu => simpa [encL] using hu
    | 2, hu => simpa [encL] using hu
    | 3, hu => simpa [encL] using hu
    | 4, hu => simpa [encL] using hu
    | j + 5, hu => simp [encL] at hu) (fun u hu => by simp [encL] at hu; rcases hu with rfl | rfl | rfl | rfl | rfl <;> rfl)
  refine ⟨v', w', h1, h2, ?_⟩
  rw [flatV_append, flatV_one, List.length_append]
  exact h3

end Go.Proofs.Ythkieoedidpkaaa
