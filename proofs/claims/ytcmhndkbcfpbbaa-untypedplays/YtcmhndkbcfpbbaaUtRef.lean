/-
  Slices of the call's own, of elements of so many cells; rows of regions; the document's pool. No statement is proved here.
-/
import Derived.Test.YtcmhndkbcfpbbaaUtPo
import Derived.Laws.AppendOwnNone
namespace Go.Proofs.Ytcmhndkbcfpbbaa
open Go.RowKit

theorem wpList_append_runK {P : Program} {w : World} {ops : Array Oper} {rest : List Oper} {o : Oper} {a : Act} {Q : Exit → Act → World → Prop} (hgd : o.guard = none) (s x : Operand) (t : TypeId)
    (ho : o.op = .call { callee := .builtin .append, args := #[s, x], argTypes := #[t, t] }) (vs vx : Value) (hs : a.eval s = vs) (hx : a.eval x = vx) (v' : Value) (w' : World)
    (hrun : (Builtin.append_ #[t, t] o.type #[vs, vx]).run P w = .ok v' w') (h : wpList P ops Q rest (a.put o.dst v') w') : wpList P ops Q (o :: rest) a w := by
  refine wpList_plain hgd fun K hK => ?_
  unfold Oper.wp
  simp [execOp, ho, resolve, invoke, builtin, hs, hx, hrun, Result.andThen]
  exact hK _ _ h

/-- A slice of the call's own: n elements of type e, k cells each. -/
def OwnK (e : TypeId) (k : Nat) (w : World) (B : Nat) (v : Value) (n : Nat) (L : List Value) : Prop := w.ownsRow B e k v n L ∧ (n = 0 → v = .slice none 0 0)

theorem ownk_nil (e : TypeId) (k : Nat) (w : World) (B : Nat) : OwnK e k w B (.slice none 0 0) 0 [] := ⟨⟨by simp, Or.inl ⟨rfl, rfl⟩⟩, fun _ => rfl⟩

theorem OwnK.at {e : TypeId} {k : Nat} {w w' : World} {B : Nat} {v : Value} {n : Nat} {L : List Value} (h : OwnK e k w B v n L) (hk : ∀ q, some q = v.ownBlock → q < w.heap.size → w'.heap[q]? = w.heap[q]?) : OwnK e k w' B v n L := by
  obtain ⟨⟨hl, h | ⟨g, cap, cur, hv, hb, hg, hc, hm, hs, ht⟩⟩, hn⟩ := h
  · exact ⟨⟨hl, Or.inl h⟩, hn⟩
  · exact ⟨⟨hl, Or.inr ⟨g, cap, cur, hv, hb, (hk g (by rw [hv]; rfl) (Row.lt (show Row w g cur e from hg))).trans hg, hc, hm, hs, ht⟩⟩, hn⟩
theorem OwnK.keep0 {e : TypeId} {k : Nat} {w w' : World} {B : Nat} {v : Value} {n : Nat} {L : List Value} (h : OwnK e k w B v n L) (f : Fr none' w w') : OwnK e k w' B v n L := h.at fun q _ hl => f.block q hl (fun h => h)
theorem OwnK.high {e : TypeId} {k : Nat} {w : World} {B : Nat} {v : Value} {n : Nat} {L : List Value} (h : OwnK e k w B v n L) (q : Nat) (hq : some q = v.ownBlock) : B ≤ q := by
  obtain ⟨⟨_, h | ⟨g, cap, cur, hv, hb, _⟩⟩, _⟩ := h
  · rw [h.1] at hq; simp [Value.ownBlock] at hq
  · rw [hv] at hq; simp [Value.ownBlock] at hq; omega
/-- The slice's block told whole. -/
theorem OwnK.row {e : TypeId} {k : Nat} {w : World} {B : Nat} {v : Value} {n : Nat} {L : List Value} (h : OwnK e k w B v n L) (hn : n ≠ 0) :
    ∃ g cap cur, v = .slice (some ⟨g, 0, none⟩) n cap ∧ B ≤ g ∧ Row w g cur e ∧ n ≤ cap ∧ cap ≤ maxLen ∧ cur.size = cap * k ∧ ∀ (j : Nat) (x : Value), L[j]? = some x → cur[j]? = some x := by
  obtain ⟨⟨hl, h | ⟨g, cap, cur, hv, hb, hg, hc, hm, hs, ht⟩⟩, _⟩ := h
  · exact absurd h.2 hn
  · refine ⟨g, cap, cur, hv, hb, hg, hc, hm, hs, fun j x hj => ?_⟩
    have : (cur.toList.take (n * k))[j]? = some x := by rw [ht]; exact hj
    rw [List.getElem?_take] at this
    split at this
    · simpa using this
    · simp at this

theorem Fr.ownK {e : TypeId} {k : Nat} {w w1 w2 : World} {v : Value} {n : Nat} {L : List Value} (f : Fr none' w w1) (g : Fr (fun q => some q = v.ownBlock) w1 w2) (o : OwnK e k w1 w.heap.size v n L) : Fr none' w w2 :=
  ⟨g.os.trans f.os, g.tape.trans f.tape, g.output.trans f.output, Nat.le_trans f.size g.size, fun i hi hn => (g.block i (Nat.lt_of_lt_of_le hi f.size) (fun e => by have := o.high i e; omega)).trans (f.block i hi hn)⟩

/-- One element more. -/
theorem append_k {T e : TypeId} {k bytes : Nat} {z : Value} (hT : Try.prog.underlying T = some (.slice e)) (hi : (Try.prog.info? e).map (fun i => (i.zero, i.size, i.bytes)) = some (some z, k, bytes)) (hz : z.cells.size = k) (hk : 0 < k) (hb8 : bytes ≤ 1000)
    (w : World) (B : Nat) (a : Addr) (v : Value) (n : Nat) (L news : List Value) (hb : B ≤ w.heap.size) (ho : OwnK e k w B v n L) (hn : n < 10000000) (hl : news.length = k) (hc : ∀ j u, news[j]? = some u → w.cell? (a.add j) = some u) (h1 : ∀ u ∈ news, u.oneCell' = true) :
    ∃ v' w', (Builtin.append_ #[T, T] T #[v, .slice (some a) 1 1]).run Try.prog w = .ok v' w' ∧ Fr (fun q => some q = v.ownBlock) w w' ∧ OwnK e k w' B v' (n + 1) (L ++ news) := by
  obtain ⟨ho, _⟩ := ho
  cases hq : Try.prog.info? e with
  | none => simp [hq] at hi
  | some i =>
    rw [hq] at hi
    simp only [Option.map_some, Option.some.injEq, Prod.mk.injEq] at hi
    obtain ⟨hz0, hs, hby⟩ := hi
    obtain ⟨v', w', g1, g2, g3, _⟩ := run_append_own (P := Try.prog) (w := w) B T T e i z k bytes hT hq hz0 hs hby hz hk v n L ho a 1 1 news (by omega) hc h1 (by simp only [maxLen]; omega) (Nat.le_trans (Nat.mul_le_mul_left _ hb8) (by omega)) hb
    exact ⟨v', w', g1, fr_of_grown g3, g2, fun h => by omega⟩

theorem ownsRow_at {w w' : World} {B n k : Nat} {e : TypeId} {v : Value} {xs : List Value} (h : w.ownsRow B e k v n xs) (hk : ∀ q, some q = v.ownBlock → q < w.heap.size → w'.heap[q]? = w.heap[q]?) : w'.ownsRow B e k v n xs := by
  obtain ⟨hl, h | ⟨g, cap, cur, hv, hb, hg, hc, hm, hs, ht⟩⟩ := h
  · exact ⟨hl, Or.inl h⟩
  · exact ⟨hl, Or.inr ⟨g, cap, cur, hv, hb, (hk g (by rw [hv]; rfl) (Row.lt (show Row w g cur e from hg))).trans hg, hc, hm, hs, ht⟩⟩

theorem ownsRow_lt {w : World} {B n k : Nat} {e : TypeId} {v : Value} {xs : List Value} (h : w.ownsRow B e k v n xs) (q : Nat) (hq : some q = v.ownBlock) : q < w.heap.size := by
  obtain ⟨hl, h | ⟨g, cap, cur, hv, hb, hg, hc, hm, hs, ht⟩⟩ := h
  · rw [h.1] at hq; simp [Value.ownBlock] at hq
  · rw [hv] at hq
    obtain rfl : q = g := by simpa [Value.ownBlock] using hq
    exact Row.lt (show Row w q cur e from hg)

theorem ownsRow_high {w : World} {B n k : Nat} {e : TypeId} {v : Value} {xs : List Value} (h : w.ownsRow B e k v n xs) (q : Nat) (hq : some q = v.ownBlock) : B ≤ q := by
  obtain ⟨hl, h | ⟨g, cap, cur, hv, hb, hg, hc, hm, hs, ht⟩⟩ := h
  · rw [h.1] at hq; simp [Value.ownBlock] at hq
  · rw [hv] at hq
    obtain rfl : q = g := by simpa [Value.ownBlock] using hq
    exact hb

theorem ownsRow_zero {w : World} {B n k : Nat} {e : TypeId} {v : Value} {xs : List Value} (h : w.ownsRow B e k v n xs) : w.ownsRow 0 e k v n xs := by
  obtain ⟨hl, h | ⟨g, cap, cur, hv, hb, r⟩⟩ := h
  · exact ⟨hl, Or.inl h⟩
  · exact ⟨hl, Or.inr ⟨g, cap, cur, hv, by omega, r⟩⟩

/-! ### rows of regions -/
def encG (x : Rg) : List Value := [.int .i64 x.f, .int .i64 x.n, .int .i64 x.m, .bool x.d]
def flatG (L : List Rg) : List Value := L.flatMap encG
theorem flatG_append (L M : List Rg) : flatG (L ++ M) = flatG L ++ flatG M := by simp [flatG]
theorem flatG_one (x : Rg) : flatG [x] = encG x := by simp [flatG]
theorem flatG_cons (x : Rg) (L : List Rg) : flatG (x :: L) = encG x ++ flatG L := by simp [flatG]
theorem flatG_len (L : List Rg) : (flatG L).length = L.length * 4 := by
  induction L with
  | nil => rfl
  | cons x L ih => rw [flatG_cons, List.length_append, ih]; simp [encG]; omega
theorem flatG_at : ∀ (L : List Rg) (i : Nat) (x : Rg), L[i]? = some x → ∀ r, r < 4 → (flatG L)[i * 4 + r]? = (encG x)[r]?
  | [], i, x, h, r, hr => by simp at h
  | y :: L, 0, x, h, r, hr => by
    simp at h; subst h
    rw [flatG_cons, Nat.zero_mul, Nat.zero_add, List.getElem?_append_left (by simp [encG]; omega)]
  | y :: L, i + 1, x, h, r, hr => by
    rw [flatG_cons, List.getElem?_append_right (by simp [encG]; omega)]
    have := flatG_at L i x (by simpa using h) r hr
    rw [← this]
    congr 1
    simp [encG]; omega
theorem flatG_one' (L : List Rg) (u : Value) (hu : u ∈ flatG L) : u.oneCell' = true := by
  unfold flatG at hu
  obtain ⟨m, _, hm⟩ := List.mem_flatMap.mp hu
  simp [encG] at hm
  rcases hm with rfl | rfl | rfl | rfl <;> rfl
theorem info_reg : (Try.prog.info? 39).map (fun i => (i.zero, i.size, i.bytes)) = some (some (.agg #[.int .i64 0, .int .i64 0, .int .i64 0, .bool false]), 4, 32) := by kernel_rfl

/-- The document's pool: its struct's block, its row. -/
structure Qb where
  b : Nat
  v : Value
def Qb.s (q : Qb) : Nat → Prop := fun k => k = q.b ∨ some k = q.v.ownBlock

structure IsQ (w : World) (q : Qb) (L : List Rg) : Prop where
  row : Row w q.b #[q.v] 33
  own : w.ownsRow 0 39 4 q.v L.length (flatG L)
  good : GoodL L

section
variable {w : World} {q : Qb} {L : List Rg}
theorem IsQ.nb (h : IsQ w q L) : some q.b ≠ q.v.ownBlock := by
  intro e
  obtain ⟨_, o | ⟨g', cap, cur, hv, _, hg, _⟩⟩ := h.own
  · rw [o.1] at e; simp [Value.ownBlock] at e
  · rw [hv] at e
    have : q.b = g' := by simpa [Value.ownBlock] using e
    have h1 : w.heap[q.b]? = _ := h.row
    rw [this, hg] at h1
    simp at h1
theorem IsQ.keep {T : Nat → Prop} {w' : World} (h : IsQ w q L) (f : Fr T w w') (hs : ∀ k, q.s k → ¬ T k) : IsQ w' q L :=
  ⟨h.row.keep f (hs _ (Or.inl rfl)), ownsRow_at h.own (fun k hk hl => f.block k hl (hs k (Or.inr hk))), h.good⟩
theorem IsQ.keep0 {w' : World} (h : IsQ w q L) (f : Fr none' w w') : IsQ w' q L := h.keep f (fun _ _ h => h)
theorem IsQ.lt (h : IsQ w q L) (k : Nat) (hk : q.s k) : k < w.heap.size := by
  rcases hk with rfl | hk
  · exact h.row.lt
  · exact ownsRow_lt h.own k hk
theorem IsQ.cell (h : IsQ w q L) : w.cell? ⟨q.b, 0, none⟩ = some q.v := h.row.cell 0

/-- The row of regions: a slice, and each region's cells. -/
theorem IsQ.form (h : IsQ w q L) : ∃ (a : Option Addr) (cap : Nat), q.v = .slice a L.length cap ∧ L.length ≤ cap ∧ (a = none → L = [] ∧ cap = 0) ∧ ∀ i n, L[i]? = some n → ∃ g, a = some ⟨g, 0, none⟩ ∧ w.cell? ⟨g, i * 4, none⟩ = some (.int .i64 n.f) ∧ w.cell? ⟨g, i * 4 + 1, none⟩ = some (.int .i64 n.n) ∧ w.cell? ⟨g, i * 4 + 2, none⟩ = some (.int .i64 n.m) ∧ w.cell? ⟨g, i * 4 + 3, none⟩ = some (.bool n.d) ∧ ∀ r, w.frozen? ⟨g, r, none⟩ = false := by
  obtain ⟨hl, hh | ⟨g, cap, cur, hv, hb, hg, hc, hm, hs, ht⟩⟩ := h.own
  · obtain ⟨h1, h2⟩ := hh
    refine ⟨none, 0, by rw [h1, h2], by omega, fun _ => ⟨List.length_eq_zero_iff.mp h2, rfl⟩, fun i n hi => ?_⟩
    rw [List.length_eq_zero_iff.mp h2] at hi
    simp at hi
  · refine ⟨_, cap, hv, hc, fun e => by (cases e), fun i n hi => ⟨g, rfl, ?_⟩⟩
    have hlt : i < L.length := by
      rcases Nat.lt_or_ge i L.length with h' | h'
      · exact h'
      · rw [List.getElem?_eq_none h'] at hi; cases hi
    have key : ∀ r, r < 4 → w.cell? ⟨g, i * 4 + r, none⟩ = (encG n)[r]? := fun r hr => by
      rw [(show Row w g cur _ from hg).cell, ← flatG_at L i n hi r hr, ← ht, List.getElem?_take, if_pos (by omega)]
      simp
    exact ⟨key 0 (by omega), key 1 (by omega), key 2 (by omega), key 3 (by omega), fun r => (show Row w g cur _ from hg).frozen r⟩

def ChgQ (w : World) (q : Qb) (w' : World) (L' : List Rg) : Prop := ∃ q' : Qb, q'.b = q.b ∧ IsQ w' q' L' ∧ Fr q.s w w' ∧ ∀ k, q'.s k → q.s k ∨ w.heap.size ≤ k
theorem ChgQ.same {w' : World} (h : IsQ w q L) (f : Fr none' w w') : ChgQ w q w' L := ⟨q, rfl, h.keep0 f, f.mono (fun _ _ h => h.elim), fun _ h => Or.inl h⟩

/-- One mark turned. -/
theorem IsQ.mark (h : IsQ w q L) {i : Nat} {n : Rg} (hi : L[i]? = some n) {g cap : Nat} (hv : q.v = .slice (some ⟨g, 0, none⟩) L.length cap) {m : Int} (hm : 0 ≤ m ∧ m ≤ n.n) : IsQ (w.setCell ⟨g, i * 4 + 2, none⟩ (.int .i64 m)) q (setM L n.f m) := by
  have hlt : i < L.length := by
    rcases Nat.lt_or_ge i L.length with h' | h'
    · exact h'
    · rw [List.getElem?_eq_none h'] at hi; cases hi
  have nb := h.nb
  obtain ⟨hl, hh | ⟨g', cap', cur, hv', hb, hg, hc, hmx, hs, ht⟩⟩ := h.own
  · rw [hv] at hh; cases hh.1
  · rw [hv] at hv'
    simp only [Value.slice.injEq, Option.some.injEq, Addr.mk.injEq, and_true, true_and] at hv'
    obtain ⟨rfl, rfl⟩ := hv'
    rw [hv] at nb
    have hgb : g ≠ q.b := fun e => nb (by rw [e]; rfl)
    have hr : Row w g cur 39 := hg
    have hn : fnd L n.f = some n := fnd_of_mem h.good.srt (List.mem_of_getElem? hi)
    refine ⟨h.row.setCell_other hgb _, ?_, good_setM h.good (fun y hy => by rw [hn] at hy; cases hy; exact hm)⟩
    rw [len_setM, hv]
    refine ⟨by rw [flatG_len, len_setM], Or.inr ⟨g, cap, _, rfl, hb, hr.setCell _ _, hc, hmx, by simpa using hs, ?_⟩⟩
    refine List.ext_getElem? fun j => ?_
    by_cases hj : j < L.length * 4
    · rw [List.getElem?_take, if_pos hj, Array.getElem?_toList, Array.getElem?_setIfInBounds]
      have hq : j / 4 < L.length := by omega
      have ex : L[j / 4]? = some L[j / 4] := List.getElem?_eq_getElem hq
      have old := flatG_at L (j / 4) _ ex (j % 4) (by omega)
      rw [show j / 4 * 4 + j % 4 = j by omega] at old
      have cold : cur[j]? = (flatG L)[j]? := by rw [← ht, List.getElem?_take, if_pos hj]; simp
      rw [setM_at h.good hi]
      by_cases e : j / 4 = i
      · have ey : L[j / 4] = n := by
          rw [← e, ex] at hi; exact Option.some.inj hi
        have new := flatG_at (L.set i ⟨n.f, n.n, m, n.d⟩) (j / 4) ⟨n.f, n.n, m, n.d⟩ (by rw [e, List.getElem?_set, if_pos rfl, if_pos hlt]) (j % 4) (by omega)
        rw [show j / 4 * 4 + j % 4 = j by omega] at new
        rw [new]
        by_cases e2 : j % 4 = 2
        · rw [if_pos (by omega), if_pos (by rw [hs]; have := Nat.mul_le_mul_right 4 hc; omega), e2]
          rfl
        · rw [if_neg (by omega), cold, old, ey]
          have : j % 4 = 0 ∨ j % 4 = 1 ∨ j % 4 = 3 := by omega
          rcases this with e3 | e3 | e3 <;> rw [e3] <;> rfl
      · have new := flatG_at (L.set i ⟨n.f, n.n, m, n.d⟩) (j / 4) L[j / 4] (by rw [List.getElem?_set, if_neg (fun h => e h.symm)]; exact ex) (j % 4) (by omega)
        rw [show j / 4 * 4 + j % 4 = j by omega] at new
        rw [new, if_neg (by omega), cold, old]
    · rw [List.getElem?_eq_none (by rw [List.length_take]; omega), List.getElem?_eq_none (by rw [flatG_len, len_setM]; omega)]
end

set_option maxRecDepth 100000 in
set_option maxHeartbeats 1000000 in
theorem rat_any (w : World) (q : Qb) (L : List Rg) (h : IsQ w q L) (k : Int) :
    Calls Try.prog 47 #[.pointer (some ⟨q.b, 0, none⟩), .int .i64 k] w fun e w' => w' = w ∧ ((fnd L k = none ∧ e = .returned (.int .i64 (-1))) ∨ ∃ (i : Nat) (n : Rg), fnd L k = some n ∧ L[i]? = some n ∧ e = .returned (.int .i64 (i : Int))) := by
  have c0 := h.cell
  obtain ⟨a, cap, hv, hcap, _, hn⟩ := h.form
  rw [hv] at c0
  have HN : Hid (∀ i n, L[i]? = some n → ∃ g, a = some ⟨g, 0, none⟩ ∧ w.cell? ⟨g, i * 4, none⟩ = some (.int .i64 n.f)) := fun i n hi => by
    obtain ⟨g, e, c, _⟩ := hn i n hi
    exact ⟨g, e, c⟩
  have hlen := len_le h.good
  have HF : Hid (∀ i n, L[i]? = some n → n.f = k → fnd L k = some n) := fun i n hi e => by
    rw [← e]
    exact fnd_of_mem h.good.srt (List.mem_of_getElem? hi)
  clear hn hv h hcap
  obtain ⟨N, hNl⟩ : ∃ N, N = L.length := ⟨_, rfl⟩
  rw [← hNl] at c0 hlen
  have HL : Hid (N = L.length) := hNl
  clear hNl
  go_enter Try.func47, Try.ntmps47
  go_wp2_with fail
  go_loopw [5] (fun i wr => ∃ j : Nat, j ≤ N ∧ i = .int .i64 (j : Int) ∧ Hid (wr = w ∧ ∀ m n, m < j → L[m]? = some n → n.f ≠ k)) (fun i _ => N - (intOf i).toNat)
  case atStart => exact ⟨0, by omega, rfl, rfl, fun m n hm => by omega⟩
  case round =>
    obtain ⟨j, hj, rfl, hI⟩ := hrel
    obtain rfl : wr = w := hI.out.1
    by_cases hjN : j < N
    · have hjL : j < L.length := by rw [← HL.out]; exact hjN
      obtain ⟨g, rfl, d0⟩ := HN.out j L[j] (List.getElem?_eq_getElem hjL)
      have HX : Hid (L[j]? = some L[j]) := List.getElem?_eq_getElem hjL
      generalize L[j] = n at *
      by_cases e : n.f = k
      · have t1 : (n.f == k) = true := by simpa using e
        have HE : Hid (fnd L k = some n) := HF.out j n HX.out e
        clear e
        go_wp2_with fail
        go_ret
        exact ⟨rfl, Or.inr ⟨j, n, HE.out, HX.out, rfl⟩⟩
      · have t1 : (n.f == k) = false := by simpa using e
        have HE : Hid (n.f ≠ k) := e
        clear e
        go_wp2_with fail
        go_roundw
        case rel =>
          refine ⟨j + 1, by omega, by go_num, trivial, fun m n' hm hn' => ?_⟩
          by_cases em : m = j
          · subst em
            rw [HX.out] at hn'
            cases hn'
            exact HE.out
          · exact hI.out.2 m n' (by omega) hn'
        case measure => simp [intOf]; omega
    · obtain rfl : j = N := by omega
      go_wp2_with fail
      go_ret
      refine ⟨rfl, Or.inl ⟨fnd_none_of fun n hn => ?_, rfl⟩⟩
      obtain ⟨m, hm, e⟩ := List.mem_iff_getElem.mp hn
      exact hI.out.2 m n (by rw [HL.out]; exact hm) (by rw [List.getElem?_eq_getElem hm, e])

end Go.Proofs.Ytcmhndkbcfpbbaa
