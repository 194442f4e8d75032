/-
  The document's scheduler as blocks; its at, out and Domain over the translation. No statement is proved here.
-/
import Derived.Test.YtipfgenbfnkpfaaSdPr
import Derived.Deep.RegionLaw
namespace Go.Proofs.Ytipfgenbfnkpfaa
open Go.RowKit Go.Maps Go.WideMaps

/-! ### rows of threads -/
def encT (x : Tk) : List Value := [.int .i64 x.i, .int .i64 x.p, .int .i64 x.d, .int .i64 x.s, .bool x.a]
def flatT (L : List Tk) : List Value := L.flatMap encT
theorem flatT_append (L M : List Tk) : flatT (L ++ M) = flatT L ++ flatT M := by simp [flatT]
theorem flatT_cons (x : Tk) (L : List Tk) : flatT (x :: L) = encT x ++ flatT L := by simp [flatT]
theorem flatT_len (L : List Tk) : (flatT L).length = L.length * 5 := by
  induction L with
  | nil => rfl
  | cons x L ih => rw [flatT_cons, List.length_append, ih]; simp [encT]; omega
theorem flatT_at : ∀ (L : List Tk) (i : Nat) (x : Tk), L[i]? = some x → ∀ r, r < 5 → (flatT L)[i * 5 + r]? = (encT x)[r]?
  | [], i, x, h, r, hr => by simp at h
  | y :: L, 0, x, h, r, hr => by
    simp at h; subst h
    rw [flatT_cons, Nat.zero_mul, Nat.zero_add, List.getElem?_append_left (by simp [encT]; omega)]
  | y :: L, i + 1, x, h, r, hr => by
    rw [flatT_cons, List.getElem?_append_right (by simp [encT]; omega)]
    have := flatT_at L i x (by simpa using h) r hr
    rw [← this]
    congr 1
    simp [encT]; omega
theorem flatT_one' (L : List Tk) (u : Value) (hu : u ∈ flatT L) : u.oneCell' = true := by
  unfold flatT at hu
  obtain ⟨m, _, hm⟩ := List.mem_flatMap.mp hu
  simp [encT] at hm
  rcases hm with rfl | rfl | rfl | rfl | rfl <;> rfl
theorem info_tk : (Try.prog.info? 40).map (fun i => (i.zero, i.size, i.bytes)) = some (some (.agg #[.int .i64 0, .int .i64 0, .int .i64 0, .int .i64 0, .bool false]), 5, 40) := by kernel_rfl

theorem lt_of_get {α : Type} {L : List α} {i : Nat} {x : α} (h : L[i]? = some x) : i < L.length := by
  rcases Nat.lt_or_ge i L.length with h' | h'
  · exact h'
  · rw [List.getElem?_eq_none h'] at h; cases h

theorem upd_at {L : List Tk} (g : GoodL L) {i : Nat} {t : Tk} (hi : L[i]? = some t) (f : Tk → Tk) : upd L t.i f = L.set i (f t) := by
  have hlt := lt_of_get hi
  have et : L[i] = t := by rw [List.getElem?_eq_getElem hlt] at hi; exact Option.some.inj hi
  refine List.ext_getElem? fun j => ?_
  unfold upd
  rw [List.getElem?_map, List.getElem?_set]
  by_cases e : i = j
  · subst e
    rw [if_pos rfl, if_pos hlt, hi]
    simp
  · rw [if_neg e]
    cases hj : L[j]? with
    | none => rfl
    | some x =>
      have hlj := lt_of_get hj
      have ex : L[j] = x := by rw [List.getElem?_eq_getElem hlj] at hj; exact Option.some.inj hj
      have hne : x.i ≠ t.i := by
        rw [← ex, ← et]
        rcases Nat.lt_or_gt_of_ne e with h | h
        · exact fun q => (List.pairwise_iff_getElem.1 g.one i j hlt hlj h) q.symm
        · exact List.pairwise_iff_getElem.1 g.one j i hlj hlt h
      simp [hne]

/-! ### the document's scheduler -/
structure Db where
  b : Nat
  T : Value
  Lv : Value
  Qv : Value
def Db.s (q : Db) : Nat → Prop := fun k => k = q.b ∨ some k = q.T.ownBlock ∨ some k = q.Lv.ownBlock ∨ some k = q.Qv.ownBlock
def dC (q : Db) (S : Sd) : Array Value := #[q.T, .int .i64 S.tn, .int .i64 S.lf, q.Lv, q.Qv, .int .i64 S.c]

structure IsD (w : World) (q : Db) (S : Sd) (Q : List Int) : Prop where
  row : Row w q.b (dC q S) 60
  tbl : w.ownsRow 0 33 2 q.T S.tb.length (flatN S.tb)
  tks : w.ownsRow 0 40 5 q.Lv S.L.length (flatT S.L)
  que : w.ownsRow 0 3 1 q.Qv Q.length (vI Q)
  good : GoodL S.L

theorem own_off {w : World} {e t : TypeId} {k n B b : Nat} {v : Value} {xs : List Value} {cs : Array Value} (h : w.ownsRow B e k v n xs) (r : Row w b cs t) (ht : t ≠ e) : some b ≠ v.ownBlock := fun hb => by
  obtain ⟨cur, hc⟩ := own_row h hb
  exact row_ne r hc ht rfl
theorem own_two {w : World} {e t : TypeId} {k k' n n' B B' : Nat} {v u : Value} {xs ys : List Value} (h : w.ownsRow B e k v n xs) (h' : w.ownsRow B' t k' u n' ys) (ht : t ≠ e) {x : Nat} (hx : some x = v.ownBlock) : some x ≠ u.ownBlock := fun hu => by
  obtain ⟨cur, hc⟩ := own_row h' hu
  exact own_off h hc ht hx

section
variable {w : World} {q : Db} {S : Sd} {Q : List Int}
theorem IsD.keep {T : Nat → Prop} {w' : World} (h : IsD w q S Q) (f : Fr T w w') (hs : ∀ k, q.s k → ¬ T k) : IsD w' q S Q :=
  ⟨h.row.keep f (hs _ (Or.inl rfl)), ownsRow_at h.tbl (fun k hk hl => f.block k hl (hs k (Or.inr (Or.inl hk)))), ownsRow_at h.tks (fun k hk hl => f.block k hl (hs k (Or.inr (Or.inr (Or.inl hk))))), ownsRow_at h.que (fun k hk hl => f.block k hl (hs k (Or.inr (Or.inr (Or.inr hk))))), h.good⟩
theorem IsD.keep0 {w' : World} (h : IsD w q S Q) (f : Fr none' w w') : IsD w' q S Q := h.keep f (fun _ _ h => h)
theorem IsD.lt (h : IsD w q S Q) (k : Nat) (hk : q.s k) : k < w.heap.size := by
  rcases hk with rfl | hk | hk | hk
  · exact h.row.lt
  · exact ownsRow_lt h.tbl k hk
  · exact ownsRow_lt h.tks k hk
  · exact ownsRow_lt h.que k hk
theorem IsD.cells (h : IsD w q S Q) : w.cell? ⟨q.b, 0, none⟩ = some q.T ∧ w.cell? ⟨q.b, 1, none⟩ = some (.int .i64 S.tn) ∧ w.cell? ⟨q.b, 2, none⟩ = some (.int .i64 S.lf) ∧ w.cell? ⟨q.b, 3, none⟩ = some q.Lv ∧ w.cell? ⟨q.b, 4, none⟩ = some q.Qv ∧ w.cell? ⟨q.b, 5, none⟩ = some (.int .i64 S.c) := ⟨h.row.cell 0, h.row.cell 1, h.row.cell 2, h.row.cell 3, h.row.cell 4, h.row.cell 5⟩
theorem IsD.frozen (h : IsD w q S Q) (i : Nat) : w.frozen? ⟨q.b, i, none⟩ = false := h.row.frozen i
theorem IsD.formL (h : IsD w q S Q) : ∃ (a : Option Addr) (cap : Nat), q.Lv = .slice a S.L.length cap ∧ S.L.length ≤ cap ∧ ∀ i n, S.L[i]? = some n → ∃ g, a = some ⟨g, 0, none⟩ ∧ g ≠ q.b ∧ w.cell? ⟨g, i * 5, none⟩ = some (.int .i64 n.i) ∧ w.cell? ⟨g, i * 5 + 1, none⟩ = some (.int .i64 n.p) ∧ w.cell? ⟨g, i * 5 + 2, none⟩ = some (.int .i64 n.d) ∧ w.cell? ⟨g, i * 5 + 3, none⟩ = some (.int .i64 n.s) ∧ w.cell? ⟨g, i * 5 + 4, none⟩ = some (.bool n.a) ∧ ∀ r, w.frozen? ⟨g, r, none⟩ = false := by
  have nb := own_off h.tks h.row (by decide)
  obtain ⟨hl, hh | ⟨g, cap, cur, hv, hb, hg, hc, hm, hs, ht⟩⟩ := h.tks
  · obtain ⟨h1, h2⟩ := hh
    refine ⟨none, 0, by rw [h1, h2], by omega, fun i n hi => ?_⟩
    have := lt_of_get hi
    omega
  · refine ⟨_, cap, hv, hc, fun i n hi => ⟨g, rfl, fun e => nb (by rw [hv, ← e]; rfl), ?_⟩⟩
    have hlt := lt_of_get hi
    have key : ∀ r, r < 5 → w.cell? ⟨g, i * 5 + r, none⟩ = (encT n)[r]? := fun r hr => by
      rw [(show Row w g cur _ from hg).cell, ← flatT_at S.L i n hi r hr, ← ht, List.getElem?_take, if_pos (by omega)]
      simp
    exact ⟨key 0 (by omega), key 1 (by omega), key 2 (by omega), key 3 (by omega), key 4 (by omega), fun r => (show Row w g cur _ from hg).frozen r⟩
theorem IsD.formQ (h : IsD w q S Q) : ∃ (a : Option Addr) (cap : Nat), q.Qv = .slice a Q.length cap ∧ ∀ (j : Nat) (x : Int), Q[j]? = some x → ∃ g, a = some ⟨g, 0, none⟩ ∧ w.cell? ⟨g, j, none⟩ = some (.int .i64 x) := by
  rcases own_form h.que with ⟨e, rfl⟩ | ⟨g, cap, e⟩
  · exact ⟨none, 0, e, fun j x hj => by simp at hj⟩
  · have hq := h.que
    rw [e] at hq
    obtain ⟨_, hlc, hcm, cur, hr, hs, hx⟩ := own_cells hq
    exact ⟨_, cap, e, fun j x hj => ⟨g, rfl, by rw [hr.cell]; exact hx j x hj⟩⟩

structure ChgD (w : World) (q : Db) (w' : World) (q' : Db) (S' : Sd) (Q' : List Int) : Prop where
  b : q'.b = q.b
  is : IsD w' q' S' Q'
  fr : Fr q.s w w'
  new : ∀ k, q'.s k → q.s k ∨ w.heap.size ≤ k
theorem ChgD.same {w' : World} (h : IsD w q S Q) (f : Fr none' w w') : ChgD w q w' q S Q := ⟨rfl, h.keep0 f, f.mono (fun _ _ h => h.elim), fun _ h => Or.inl h⟩
theorem ChgD.trans {w1 w2 : World} {q1 q2 : Db} {S1 S2 : Sd} {Q1 Q2 : List Int} (h : ChgD w q w1 q1 S1 Q1) (k : ChgD w1 q1 w2 q2 S2 Q2) : ChgD w q w2 q2 S2 Q2 := by
  refine ⟨k.b.trans h.b, k.is, ⟨k.fr.os.trans h.fr.os, k.fr.tape.trans h.fr.tape, k.fr.output.trans h.fr.output, Nat.le_trans h.fr.size k.fr.size, fun i hi hn => ?_⟩, fun i hi => ?_⟩
  · refine (k.fr.block i (Nat.lt_of_lt_of_le hi h.fr.size) (fun e => ?_)).trans (h.fr.block i hi hn)
    rcases h.new i e with e' | e'
    · exact hn e'
    · omega
  · rcases k.new i hi with e | e
    · exact h.new i e
    · exact Or.inr (Nat.le_trans h.fr.size e)

theorem IsD.set1 (h : IsD w q S Q) {S' : Sd} {i : Nat} {v : Value} (hL : S'.L = S.L) (hb : S'.tb = S.tb) (hr : (dC q S).setIfInBounds i v = dC q S') : ChgD w q (w.setCell ⟨q.b, i, none⟩ v) q S' Q := by
  have f : Fr (at' q.b) w (w.setCell ⟨q.b, i, none⟩ v) := fr_set w q.b i _ (Fr.refl _ _)
  have n1 := own_off h.tbl h.row (by decide)
  have n2 := own_off h.tks h.row (by decide)
  have n3 := own_off h.que h.row (by decide)
  refine ⟨rfl, ⟨by rw [← hr]; exact h.row.setCell i v, ?_, ?_, ?_, by rw [hL]; exact h.good⟩, f.mono (fun k _ e => Or.inl e), fun k hk => Or.inl hk⟩
  · rw [hb]; exact ownsRow_at h.tbl fun k hk hl => f.block k hl (fun e => n1 (by rw [← (show k = q.b from e)]; exact hk))
  · rw [hL]; exact ownsRow_at h.tks fun k hk hl => f.block k hl (fun e => n2 (by rw [← (show k = q.b from e)]; exact hk))
  · exact ownsRow_at h.que fun k hk hl => f.block k hl (fun e => n3 (by rw [← (show k = q.b from e)]; exact hk))
theorem IsD.setC (h : IsD w q S Q) (c : Int) : ChgD w q (w.setCell ⟨q.b, 5, none⟩ (.int .i64 c)) q { S with c := c } Q := h.set1 rfl rfl rfl
theorem IsD.setN (h : IsD w q S Q) (n : Nat) : ChgD w q (w.setCell ⟨q.b, 1, none⟩ (.int .i64 n)) q { S with tn := n } Q := h.set1 rfl rfl rfl
theorem IsD.setF (h : IsD w q S Q) (n : Int) : ChgD w q (w.setCell ⟨q.b, 2, none⟩ (.int .i64 n)) q { S with lf := n } Q := h.set1 rfl rfl rfl

/-- The list of those who are ready turned, then its cell. -/
theorem IsD.setQ (h : IsD w q S Q) {w1 : World} {v : Value} {Q' : List Int} (fr : Fr (fun k => some k = q.Qv.ownBlock) w w1) (ho : w1.ownsRow 0 3 1 v Q'.length (vI Q')) (hv : ∀ k, some k = v.ownBlock → some k = q.Qv.ownBlock ∨ w.heap.size ≤ k) : ChgD w q (w1.setCell ⟨q.b, 4, none⟩ v) { q with Qv := v } S Q' := by
  have f : Fr (at' q.b) w1 (w1.setCell ⟨q.b, 4, none⟩ v) := fr_set w1 q.b 4 _ (Fr.refl _ _)
  have n1 := own_off h.tbl h.row (by decide)
  have n2 := own_off h.tks h.row (by decide)
  have n3 := own_off h.que h.row (by decide)
  have hb := h.row.lt
  have r1 : Row w1 q.b (dC q S) 60 := h.row.keep fr n3
  have m1 : ∀ {k}, some k = q.T.ownBlock → some k ≠ q.Qv.ownBlock := fun hk => own_two h.tbl h.que (by decide) hk
  have m2 : ∀ {k}, some k = q.Lv.ownBlock → some k ≠ q.Qv.ownBlock := fun hk => own_two h.tks h.que (by decide) hk
  refine ⟨rfl, ⟨r1.setCell 4 v, ?_, ?_, ?_, h.good⟩, ?_, fun k hk => ?_⟩
  · refine ownsRow_at h.tbl fun k hk hl => ?_
    refine (f.block k (Nat.lt_of_lt_of_le hl fr.size) (fun e => n1 (by rw [← (show k = q.b from e)]; exact hk))).trans (fr.block k hl (m1 hk))
  · refine ownsRow_at h.tks fun k hk hl => ?_
    refine (f.block k (Nat.lt_of_lt_of_le hl fr.size) (fun e => n2 (by rw [← (show k = q.b from e)]; exact hk))).trans (fr.block k hl (m2 hk))
  · refine ownsRow_at ho fun k hk hl => f.block k hl (fun e => ?_)
    have e' : k = q.b := e
    subst e'
    rcases hv _ hk with e | e
    · exact n3 e
    · omega
  · have f0 : Fr q.s w w1 := fr.mono (fun k _ e => Or.inr (Or.inr (Or.inr e)))
    exact f0.setCell (p := ⟨q.b, 4, none⟩) (Or.inr (Or.inl rfl)) v
  · rcases hk with e | e | e | e
    · exact Or.inl (Or.inl e)
    · exact Or.inl (Or.inr (Or.inl e))
    · exact Or.inl (Or.inr (Or.inr (Or.inl e)))
    · rcases hv k e with e' | e'
      · exact Or.inl (Or.inr (Or.inr (Or.inr e')))
      · exact Or.inr e'

/-- The list of threads turned, then its cell. -/
theorem IsD.setL (h : IsD w q S Q) {w1 : World} {v : Value} {L' : List Tk} (g' : GoodL L') (fr : Fr (fun k => some k = q.Lv.ownBlock) w w1) (ho : w1.ownsRow 0 40 5 v L'.length (flatT L')) (hv : ∀ k, some k = v.ownBlock → some k = q.Lv.ownBlock ∨ w.heap.size ≤ k) : ChgD w q (w1.setCell ⟨q.b, 3, none⟩ v) { q with Lv := v } { S with L := L' } Q := by
  have f : Fr (at' q.b) w1 (w1.setCell ⟨q.b, 3, none⟩ v) := fr_set w1 q.b 3 _ (Fr.refl _ _)
  have n1 := own_off h.tbl h.row (by decide)
  have n2 := own_off h.tks h.row (by decide)
  have n3 := own_off h.que h.row (by decide)
  have hb := h.row.lt
  have r1 : Row w1 q.b (dC q S) 60 := h.row.keep fr n2
  have m1 : ∀ {k}, some k = q.T.ownBlock → some k ≠ q.Lv.ownBlock := fun hk => own_two h.tbl h.tks (by decide) hk
  have m2 : ∀ {k}, some k = q.Qv.ownBlock → some k ≠ q.Lv.ownBlock := fun hk => own_two h.que h.tks (by decide) hk
  refine ⟨rfl, ⟨r1.setCell 3 v, ?_, ?_, ?_, g'⟩, ?_, fun k hk => ?_⟩
  · refine ownsRow_at h.tbl fun k hk hl => ?_
    refine (f.block k (Nat.lt_of_lt_of_le hl fr.size) (fun e => n1 (by rw [← (show k = q.b from e)]; exact hk))).trans (fr.block k hl (m1 hk))
  · refine ownsRow_at ho fun k hk hl => f.block k hl (fun e => ?_)
    have e' : k = q.b := e
    subst e'
    rcases hv _ hk with e | e
    · exact n2 e
    · omega
  · refine ownsRow_at h.que fun k hk hl => ?_
    refine (f.block k (Nat.lt_of_lt_of_le hl fr.size) (fun e => n3 (by rw [← (show k = q.b from e)]; exact hk))).trans (fr.block k hl (m2 hk))
  · have f0 : Fr q.s w w1 := fr.mono (fun k _ e => Or.inr (Or.inr (Or.inl e)))
    exact f0.setCell (p := ⟨q.b, 3, none⟩) (Or.inr (Or.inl rfl)) v
  · rcases hk with e | e | e | e
    · exact Or.inl (Or.inl e)
    · exact Or.inl (Or.inr (Or.inl e))
    · rcases hv k e with e' | e'
      · exact Or.inl (Or.inr (Or.inr (Or.inl e')))
      · exact Or.inr e'
    · exact Or.inl (Or.inr (Or.inr (Or.inr e)))

/-- One cell of one thread turned. -/
theorem IsD.setT (h : IsD w q S Q) {i : Nat} {t : Tk} (hi : S.L[i]? = some t) {g cap : Nat} (hv : q.Lv = .slice (some ⟨g, 0, none⟩) S.L.length cap) {f : Tk → Tk} (hf : ∀ t, (f t).i = t.i) (ho : okT (f t)) {r : Nat} (hr : r < 5) {u : Value} (he : encT (f t) = (encT t).set r u) : ChgD w q (w.setCell ⟨g, i * 5 + r, none⟩ u) q { S with L := upd S.L t.i f } Q := by
  have hlt := lt_of_get hi
  have n2 := own_off h.tks h.row (by decide)
  have m1 : ∀ {k}, some k = q.T.ownBlock → some k ≠ q.Lv.ownBlock := fun hk => own_two h.tbl h.tks (by decide) hk
  have m2 : ∀ {k}, some k = q.Qv.ownBlock → some k ≠ q.Lv.ownBlock := fun hk => own_two h.que h.tks (by decide) hk
  have fs : Fr (at' g) w (w.setCell ⟨g, i * 5 + r, none⟩ u) := fr_set w g _ _ (Fr.refl _ _)
  have hgv : some g = q.Lv.ownBlock := by rw [hv]; rfl
  obtain ⟨hl, hh | ⟨g', cap', cur, hv', hb, hg, hc, hmx, hs, ht⟩⟩ := h.tks
  · rw [hv] at hh; cases hh.1
  · rw [hv] at hv'
    simp only [Value.slice.injEq, Option.some.injEq, Addr.mk.injEq, and_true, true_and] at hv'
    obtain ⟨rfl, rfl⟩ := hv'
    have hrw : Row w g cur 40 := hg
    have goodn : GoodL (upd S.L t.i f) := good_upd h.good hf (fun y hy e => by
      have e1 := fnd_of_mem h.good.one hy
      have e2 := fnd_of_mem h.good.one (List.mem_of_getElem? hi)
      rw [e, e2] at e1
      cases e1
      exact ho)
    have hgb : g ≠ q.b := fun e => n2 (by rw [← e]; exact hgv)
    refine ⟨rfl, ⟨h.row.keep fs (fun e => hgb (show q.b = g from e).symm), ownsRow_at h.tbl fun k hk hl => fs.block k hl (fun e => m1 hk (by rw [show k = g from e]; exact hgv)), ?_, ownsRow_at h.que fun k hk hl => fs.block k hl (fun e => m2 hk (by rw [show k = g from e]; exact hgv)), goodn⟩, fs.mono (fun k _ e => Or.inr (Or.inr (Or.inl (by rw [show k = g from e]; exact hgv)))), fun k hk => Or.inl hk⟩
    show World.ownsRow _ 0 _ 5 q.Lv (upd S.L t.i f).length (flatT (upd S.L t.i f))
    rw [upd_at h.good hi, List.length_set, hv]
    refine ⟨by rw [flatT_len, List.length_set], Or.inr ⟨g, cap, _, rfl, hb, hrw.setCell _ _, hc, hmx, by simpa using hs, ?_⟩⟩
    refine List.ext_getElem? fun j => ?_
    by_cases hj : j < S.L.length * 5
    · rw [List.getElem?_take, if_pos hj, Array.getElem?_toList, Array.getElem?_setIfInBounds]
      have hq : j / 5 < S.L.length := by omega
      have ex : S.L[j / 5]? = some S.L[j / 5] := List.getElem?_eq_getElem hq
      have old := flatT_at S.L (j / 5) _ ex (j % 5) (by omega)
      rw [show j / 5 * 5 + j % 5 = j by omega] at old
      have cold : cur[j]? = (flatT S.L)[j]? := by rw [← ht, List.getElem?_take, if_pos hj]; simp
      by_cases e : j / 5 = i
      · have ey : S.L[j / 5] = t := by
          rw [← e, ex] at hi; exact Option.some.inj hi
        have new := flatT_at (S.L.set i (f t)) (j / 5) (f t) (by rw [e, List.getElem?_set, if_pos rfl, if_pos hlt]) (j % 5) (by omega)
        rw [show j / 5 * 5 + j % 5 = j by omega] at new
        rw [new, he, List.getElem?_set]
        by_cases e2 : r = j % 5
        · rw [if_pos (by omega), if_pos (by rw [hs]; have := Nat.mul_le_mul_right 5 hc; omega), if_pos e2, if_pos (by rw [show (encT t).length = 5 from rfl]; omega)]
        · rw [if_neg (by omega), if_neg e2, cold, old, ey]
      · have new := flatT_at (S.L.set i (f t)) (j / 5) S.L[j / 5] (by rw [List.getElem?_set, if_neg (fun h => e h.symm)]; exact ex) (j % 5) (by omega)
        rw [show j / 5 * 5 + j % 5 = j by omega] at new
        rw [new, if_neg (by omega), cold, old]
    · rw [List.getElem?_eq_none (by rw [List.length_take]; omega), List.getElem?_eq_none (by rw [flatT_len, List.length_set]; omega)]
end

set_option maxRecDepth 100000 in
set_option maxHeartbeats 1000000 in
theorem rat_any (w : World) (q : Db) (S : Sd) (Q : List Int) (h : IsD w q S Q) (k : Int) :
    Calls Try.prog 55 #[.pointer (some ⟨q.b, 0, none⟩), .int .i64 k] w fun e w' => w' = w ∧ ((fnd S.L k = none ∧ e = .returned (.int .i64 (-1))) ∨ ∃ (i : Nat) (n : Tk), fnd S.L k = some n ∧ S.L[i]? = some n ∧ e = .returned (.int .i64 (i : Int))) := by
  have c0 := h.cells.2.2.2.1
  obtain ⟨a, cap, hv, hcap, hn⟩ := h.formL
  rw [hv] at c0
  have HN : Hid (∀ i n, S.L[i]? = some n → ∃ g, a = some ⟨g, 0, none⟩ ∧ w.cell? ⟨g, i * 5, none⟩ = some (.int .i64 n.i)) := fun i n hi => by
    obtain ⟨g, e, _, c, _⟩ := hn i n hi
    exact ⟨g, e, c⟩
  have hlen := len_le h.good
  have HF : Hid (∀ i n, S.L[i]? = some n → n.i = k → fnd S.L k = some n) := fun i n hi e => by
    rw [← e]
    exact fnd_of_mem h.good.one (List.mem_of_getElem? hi)
  clear hn hv h hcap
  generalize S.L = L at *
  obtain ⟨N, hNl⟩ : ∃ N, N = L.length := ⟨_, rfl⟩
  rw [← hNl] at c0 hlen
  have HL : Hid (N = L.length) := hNl
  clear hNl
  go_enter Try.func55, Try.ntmps55
  go_wp2_with fail
  go_loopw [5] (fun i wr => ∃ j : Nat, j ≤ N ∧ i = .int .i64 (j : Int) ∧ Hid (wr = w ∧ ∀ m n, m < j → L[m]? = some n → n.i ≠ k)) (fun i _ => N - (intOf i).toNat)
  case atStart => exact ⟨0, by omega, rfl, rfl, fun m n hm => by omega⟩
  case round =>
    obtain ⟨j, hj, rfl, hI⟩ := hrel
    obtain rfl : wr = w := hI.out.1
    by_cases hjN : j < N
    · have hjL : j < L.length := by rw [← HL.out]; exact hjN
      obtain ⟨g, rfl, d0⟩ := HN.out j L[j] (List.getElem?_eq_getElem hjL)
      have HX : Hid (L[j]? = some L[j]) := List.getElem?_eq_getElem hjL
      generalize L[j] = n at *
      by_cases e : n.i = k
      · have t1 : (n.i == k) = true := by simpa using e
        have HE : Hid (fnd L k = some n) := HF.out j n HX.out e
        clear e
        go_wp2_with fail
        go_ret
        exact ⟨rfl, Or.inr ⟨j, n, HE.out, HX.out, rfl⟩⟩
      · have t1 : (n.i == k) = false := by simpa using e
        have HE : Hid (n.i ≠ k) := e
        clear e
        go_wp2_with fail
        go_roundw
        case rel =>
          refine ⟨j + 1, by omega, by go_num, trivial, fun m n' hm hn' => ?_⟩
          by_cases em : m = j
          · subst em
            rw [HX.out] at hn'
            cases hn'
            exact HE.out
          · exact hI.out.2 m n' (by omega) hn'
        case measure => simp [intOf]; omega
    · obtain rfl : j = N := by omega
      go_wp2_with fail
      go_ret
      refine ⟨rfl, Or.inl ⟨fnd_none_of fun n hn => ?_, rfl⟩⟩
      obtain ⟨m, hm, e⟩ := List.mem_iff_getElem.mp hn
      exact hI.out.2 m n (by rw [HL.out]; exact hm) (by rw [List.getElem?_eq_getElem hm, e])

theorem fnd_ix {L : List Tk} {k : Int} {n : Tk} (h : fnd L k = some n) : ∃ i : Nat, L[i]? = some n := by
  obtain ⟨i, hi, e⟩ := List.mem_iff_getElem.mp (fnd_mem h).1
  exact ⟨i, by rw [List.getElem?_eq_getElem hi, e]⟩
theorem ix_one {L : List Tk} (g : GoodL L) {i j : Nat} {n : Tk} (hi : L[i]? = some n) (hj : L[j]? = some n) : i = j := by
  have h1 := lt_of_get hi
  have h2 := lt_of_get hj
  have e1 : L[i] = n := by rw [List.getElem?_eq_getElem h1] at hi; exact Option.some.inj hi
  have e2 : L[j] = n := by rw [List.getElem?_eq_getElem h2] at hj; exact Option.some.inj hj
  rcases Nat.lt_trichotomy i j with h | h | h
  · exact absurd (by rw [e1, e2]) (List.pairwise_iff_getElem.1 g.one i j h1 h2 h)
  · exact h
  · exact absurd (by rw [e1, e2]) (List.pairwise_iff_getElem.1 g.one j i h2 h1 h)
theorem rat_no {w : World} {q : Db} {S : Sd} {Q : List Int} (h : IsD w q S Q) {k : Int} (hf : fnd S.L k = none) : Calls Try.prog 55 #[.pointer (some ⟨q.b, 0, none⟩), .int .i64 k] w fun e w' => e = .returned (.int .i64 (-1)) ∧ w' = w := by
  refine (rat_any w q S Q h k).mono ?_
  rintro e w' ⟨rfl, ⟨_, rfl⟩ | ⟨i, n, hn, _⟩⟩
  · exact ⟨rfl, rfl⟩
  · rw [hf] at hn; cases hn
theorem rat_at {w : World} {q : Db} {S : Sd} {Q : List Int} (h : IsD w q S Q) {k : Int} {t : Tk} (hf : fnd S.L k = some t) {i : Nat} (hi : S.L[i]? = some t) : Calls Try.prog 55 #[.pointer (some ⟨q.b, 0, none⟩), .int .i64 k] w fun e w' => e = .returned (.int .i64 (i : Int)) ∧ w' = w := by
  refine (rat_any w q S Q h k).mono ?_
  rintro e w' ⟨rfl, ⟨hn, _⟩ | ⟨j, n, hn, hj, rfl⟩⟩
  · rw [hf] at hn; cases hn
  · rw [hf] at hn
    cases hn
    rw [ix_one h.good hi hj]
    exact ⟨rfl, rfl⟩

set_option maxRecDepth 100000 in
set_option maxHeartbeats 1000000 in
theorem rdom_any (w : World) (q : Db) (S : Sd) (Q : List Int) (h : IsD w q S Q) (htn : S.tn < S.tb.length) :
    Calls Try.prog 38 #[.pointer (some ⟨q.b, 0, none⟩)] w fun e w' => e = .returned (.int .i64 (pe S)) ∧ ∃ n, w' = w.drewN n := by
  obtain ⟨ct, cn, _⟩ := h.cells
  have he : S.tb[S.tn]? = some (pt S) := by unfold pt; rw [List.getElem?_eq_getElem htn]; rfl
  obtain ⟨hl, hh | ⟨g, cap, cur, hv, hb, hg, hc, hm, hs, ht⟩⟩ := h.tbl
  · rw [hh.2] at htn; omega
  · have d0 : w.cell? ⟨g, S.tn * 2, none⟩ = some (.int .i64 (pt S).d) := by
      rw [(show Row w g cur _ from hg).cell]
      have := flatN_at S.tb S.tn (pt S) he 0 (by omega)
      rw [← ht, List.getElem?_take, if_pos (by omega)] at this
      simpa [encN] using this
    rw [hv] at ct
    have i1 : 0 ≤ (S.tn : Int) ∧ (S.tn : Int) < (S.tb.length : Int) := by omega
    have HP : Hid ((pt S).d = pe S) := rfl
    generalize (pt S).d = x at *
    generalize pe S = y at *
    obtain rfl : x = y := HP
    clear h hl hv hb hg hc hm hs ht he htn
    generalize S.tn = tn at *
    generalize S.tb.length = m at *
    go_enter Try.func38, Try.ntmps38
    go_wp2_with fail
    go_quiet (fail)
    go_wp2_with fail
    go_ret
    exact ⟨rfl, _, rfl⟩

theorem app_q {w : World} (x : Int) (v : Value) (l : List Int) (ho : w.ownsRow 0 3 1 v l.length (vI l)) (hl : l.length ≤ 5000) (w1 : World) (g : Nat) (f1 : Fr none' w w1) (r1 : Row w1 g #[.int .i64 x] 3) :
    ∃ v' w', (Builtin.append_ #[43, 43] 43 #[v, .slice (some ⟨g, 0, none⟩) 1 1]).run Try.prog w1 = .ok v' w' ∧ Fr (fun k => some k = v.ownBlock) w1 w' ∧ w'.ownsRow 0 3 1 v' (l ++ [x]).length (vI (l ++ [x])) ∧ (v'.ownBlock = v.ownBlock ∨ v'.ownBlock = some w1.heap.size) := by
  have := append_q w1 v l [x] ⟨g, 0, none⟩ 1 (ownsRow_at ho fun q _ hl => f1.block q hl (fun h => h)) (by simp; omega) (fun j u hu => by
    rw [add_lit', Nat.zero_add, r1.cell]
    match j, hu with
    | 0, hu => simpa [vI] using hu
    | j + 1, hu => simp [vI] at hu)
  exact this

set_option maxRecDepth 100000 in
set_option maxHeartbeats 2000000 in
theorem rout_any (w : World) (q : Db) (S : Sd) (Q : List Int) (h : IsD w q S Q) (hl : Q.length ≤ 5000) (id : Int) :
    Calls Try.prog 56 #[.pointer (some ⟨q.b, 0, none⟩), .int .i64 id] w fun e w' => ∃ v, e = .returned v ∧ ∃ q', ChgD w q w' q' S (gOut id Q) ∧ q'.Lv = q.Lv := by
  have c0 := h.cells.2.2.2.2.1
  obtain ⟨a, cap, hv, hn⟩ := h.formQ
  rw [hv] at c0
  have HN : Hid (∀ (j : Nat) (x : Int), Q[j]? = some x → ∃ g, a = some ⟨g, 0, none⟩ ∧ w.cell? ⟨g, j, none⟩ = some (.int .i64 x)) := hn
  have HE : Hid (∀ w1 v, Fr none' w w1 → w1.ownsRow 0 3 1 v (gOut id Q).length (vI (gOut id Q)) → (∀ k, some k = v.ownBlock → w.heap.size ≤ k) → ∃ q', ChgD w q (w1.setCell ⟨q.b, 4, none⟩ v) q' S (gOut id Q) ∧ q'.Lv = q.Lv) := fun w1 v f o hk => by
    have := h.setQ (w1 := w1) (v := v) (Q' := gOut id Q) (f.mono (fun _ _ h => h.elim)) o (fun k e => Or.inr (hk k e))
    exact ⟨_, this, rfl⟩
  have HZ : Hid (∀ w1, Fr none' w w1 → w1.frozen? ⟨q.b, 4, none⟩ = false) := fun w1 f => (h.keep0 f).frozen 4
  have HC : Hid (∀ w1, Fr none' w w1 → w1.cell? ⟨q.b, 4, none⟩ = some (.slice a Q.length cap)) := fun w1 f => cell_keep f c0 (fun h => h)
  clear hn hv h
  obtain ⟨N, hNl⟩ : ∃ N, N = Q.length := ⟨_, rfl⟩
  rw [← hNl] at c0 hl HC
  have HL : Hid (N = Q.length) := hNl
  clear hNl c0
  go_enter Try.func56, Try.ntmps56
  go_wp2_with fail
  go_loopw [4, 5] (fun v i wr => ∃ (j n c : Nat) (av : Option Addr), j ≤ N ∧ i = .int .i64 (j : Int) ∧ v = .slice av n c ∧ Fr none' w wr ∧ Hid (n = (gOut id (Q.take j)).length ∧ wr.ownsRow 0 3 1 (.slice av n c) (gOut id (Q.take j)).length (vI (gOut id (Q.take j))) ∧ ∀ k, some k = (Value.slice av n c).ownBlock → w.heap.size ≤ k)) (fun _ i _ => N - (intOf i).toNat)
  case atStart => exact ⟨0, 0, 0, none, by omega, rfl, rfl, Fr.refl _ _, rfl, ⟨rfl, Or.inl ⟨rfl, rfl⟩⟩, fun k hk => by cases hk⟩
  case round =>
    obtain ⟨j, n, c, av, hj, rfl, rfl, fr, HI⟩ := hrel
    have cc := HC.out wr fr
    by_cases hjN : j < N
    · have hjL : j < Q.length := by rw [← HL.out]; exact hjN
      obtain ⟨g, rfl, d0⟩ := HN.out j Q[j] (List.getElem?_eq_getElem hjL)
      replace d0 := cell_keep fr d0 (fun h => h)
      have ht : Q.take (j + 1) = Q.take j ++ [Q[j]] := by rw [List.take_add_one, List.getElem?_eq_getElem hjL]; rfl
      have HT : Hid (gOut id (Q.take (j + 1)) = if Q[j] = id then gOut id (Q.take j) else gOut id (Q.take j) ++ [Q[j]]) := by
        show gOut id (Q.take (j + 1)) = _
        rw [ht]
        unfold gOut
        rw [List.filter_append]
        by_cases e : Q[j] = id
        · rw [if_pos e]; simp [e]
        · rw [if_neg e]; simp [e]
      have i1 : 0 ≤ (j : Int) ∧ (j : Int) < (N : Int) := by omega
      clear ht
      generalize Q[j] = x at *
      by_cases e : x = id
      · have t1 : (x != id) = false := by simp [e]
        have HI2 : Hid (n = (gOut id (Q.take (j + 1))).length ∧ wr.ownsRow 0 3 1 (.slice av n c) (gOut id (Q.take (j + 1))).length (vI (gOut id (Q.take (j + 1)))) ∧ ∀ k, some k = (Value.slice av n c).ownBlock → w.heap.size ≤ k) := by
          show _ ∧ _
          rw [HT.out, if_pos e]
          exact HI.out
        clear e HT HI hjL
        go_wp2_with fail
        go_roundw
        case rel => exact ⟨j + 1, n, c, av, by omega, by go_num, rfl, fr, HI2⟩
        case measure => simp [intOf]; omega
      · have t1 : (x != id) = true := by simpa using e
        obtain ⟨hn, ho, hnew⟩ := HI.out
        have fa := (Fr.refl none' wr).alloc (.cells #[.int .i64 x] 3)
        have hlen : (gOut id (Q.take j)).length ≤ 5000 := by
          have h1 : (gOut id (Q.take j)).length ≤ (Q.take j).length := List.length_filter_le _ _
          rw [List.length_take] at h1
          omega
        obtain ⟨v', w', hrun, f2, h2, h3⟩ := app_q x _ _ ho hlen _ wr.heap.size fa (row_alloc wr #[.int .i64 x] 3)
        obtain ⟨av', n', c', hv'⟩ : ∃ av' n' c', v' = .slice av' n' c' := by
          rcases own_form h2 with ⟨e, _⟩ | ⟨g, cap, e⟩
          · exact ⟨_, _, _, e⟩
          · exact ⟨_, _, _, e⟩
        subst hv'
        have hn' : n' = (gOut id (Q.take j) ++ [x]).length := by
          rcases own_form h2 with ⟨e, e'⟩ | ⟨g, cap, e⟩
          · simp at e'
          · simp only [Value.slice.injEq] at e; exact e.2.1
        have HI2 : Hid (Fr none' w w' ∧ n' = (gOut id (Q.take (j + 1))).length ∧ w'.ownsRow 0 3 1 (.slice av' n' c') (gOut id (Q.take (j + 1))).length (vI (gOut id (Q.take (j + 1)))) ∧ ∀ k, some k = (Value.slice av' n' c').ownBlock → w.heap.size ≤ k) := by
          show _ ∧ _
          rw [HT.out, if_neg e]
          have fz := fr.size
          refine ⟨?_, hn', h2, fun k hk => ?_⟩
          · have f3 := fr.trans fa
            exact ⟨f2.os.trans f3.os, f2.tape.trans f3.tape, f2.output.trans f3.output, Nat.le_trans f3.size f2.size, fun i hi hn => (f2.block i (Nat.lt_of_lt_of_le hi f3.size) (fun e => by have := hnew i e; omega)).trans (f3.block i hi hn)⟩
          · rcases h3 with h3 | h3
            · rw [h3] at hk; exact hnew k hk
            · rw [h3] at hk
              have := Option.some.inj hk
              simp at this
              omega
        clear e HT HI hjL ho hnew hlen f2 h2 h3 hn' fa hn
        go_wp2_with (at_builtin; refine wpList_append_runK rfl _ _ 43 rfl _ _ rfl rfl _ _ hrun ?_)
        go_roundw
        case rel => exact ⟨j + 1, n', c', av', by omega, by go_num, rfl, HI2.out⟩
        case measure => simp [intOf]; omega
    · have HR : Hid (∃ q', ChgD w q (wr.setCell ⟨q.b, 4, none⟩ (.slice av n c)) q' S (gOut id Q) ∧ q'.Lv = q.Lv) := by
        obtain ⟨hn, ho, hnew⟩ := HI.out
        have e : Q.take j = Q := List.take_of_length_le (by rw [← HL.out]; omega)
        rw [e] at ho
        exact HE.out wr _ fr ho hnew
      have zz := HZ.out wr fr
      have ij : ¬ (j : Int) < (N : Int) := by omega
      clear HI HE HN
      go_wp2_with fail
      refine post_void rfl rfl fun v => ?_
      exact ⟨⟨v, rfl⟩, HR.out⟩

end Go.Proofs.Ytipfgenbfnkpfaa
