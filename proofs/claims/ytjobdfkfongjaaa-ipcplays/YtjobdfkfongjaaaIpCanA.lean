/-
  What those who leave together leave as it was; a chain of calls over a loop's own blocks. No statement is proved here.
-/
import Derived.Test.YtjobdfkfongjaaaIpLeaF
import Derived.Test.YtjobdfkfongjaaaIpOwn
namespace Go.Proofs.Ytjobdfkfongjaaa
open Go.RowKit Go.Maps Go.WideMaps Go.Shelf

theorem leaL_app : ∀ (l : List Int) (S : Ip) (x : Int), leaL S (l ++ [x]) = leaS (leaL S l) x
  | [], _, _ => rfl
  | y :: l, S, x => leaL_app l (leaS S y) x
theorem leaL_app2 : ∀ (l m : List Int) (S : Ip), leaL S (l ++ m) = leaL (leaL S l) m
  | [], _, _ => rfl
  | y :: l, m, S => leaL_app2 l m (leaS S y)
theorem leaL_other : ∀ (l : List Int) {S : Ip} {x : Int}, x ∉ l → fnd (leaL S l).L x = fnd S.L x
  | [], _, _, _ => rfl
  | y :: l, S, x, h => by
    rw [show leaL S (y :: l) = leaL (leaS S y) l from rfl, leaL_other l (fun e => h (List.mem_cons_of_mem _ e))]
    show fnd (upd S.L y (setP 0 (-1))) x = _
    rw [fnd_upd1 S.L y (f := setP 0 (-1)) (fun _ => rfl), if_neg (fun e => h (by rw [e]; exact List.mem_cons_self))]
theorem take_filter {L : List Int} {k : Nat} (hk : k < L.length) (G : Int → Bool) : (L.take (k + 1)).filter G = (L.take k).filter G ++ if G L[k] = true then [L[k]] else [] := by
  rw [List.take_succ_eq_append_getElem hk, List.filter_append]
  congr 1
  cases h : G L[k] <;> simp [h]
theorem not_before {L : List Int} (hn : L.Nodup) {k : Nat} (hk : k < L.length) (G : Int → Bool) : L[k] ∉ (L.take k).filter G := fun hm => by
  obtain ⟨j, hj, e⟩ := List.mem_iff_getElem.1 (List.mem_filter.1 hm).1
  rw [List.length_take] at hj
  rw [List.getElem_take] at e
  exact List.pairwise_iff_getElem.1 hn j k (by omega) hk (by omega) e

/-! ### blocks by their types -/
theorem row_map {w : World} {b : Nat} {cs : Array Value} {t : TypeId} (r : Row w b cs t) {V : Int → Int → Option Qs} (m : MQ w b V) : False := by
  obtain ⟨_, D, hm, _⟩ := m
  obtain ⟨es, clock, hb, _⟩ := hm
  rw [show w.heap[b]? = some (.cells cs t (0, 0)) from r] at hb
  cases hb
theorem row_ty {w : World} {b : Nat} {cs cs' : Array Value} {t t' : TypeId} (r : Row w b cs t) (r' : Row w b cs' t') : t = t' ∧ cs = cs' := by
  have h : w.heap[b]? = some (.cells cs t (0, 0)) := r
  rw [show w.heap[b]? = some (.cells cs' t' (0, 0)) from r'] at h
  cases h
  exact ⟨rfl, rfl⟩

section
variable {w w' W W' : World} {p p' : Pb} {S S' : Ip} {b g : Nat} {t : Int}
/-- What leave turns is no block of another type. -/
theorem two_off (h : IsI W p S) {u : Th} (hu : fnd S.L t = some u) {k : Nat} {cs : Array Value} {ty : TypeId} (r : Row W k cs ty) (ht : ty ≠ 89) : ¬ two p.q (p.B t) k := fun e => by
  rcases e with rfl | rfl
  · exact row_map r h.mq
  · exact ht (row_ty r (h.look hu)).1
/-- The four maps stay the same. -/
def Sm (p p' : Pb) : Prop := p'.m = p.m ∧ p'.q = p.q ∧ p'.l = p.l ∧ p'.d = p.d
theorem sm_of (h : IsI W p S) (h' : IsI W' p' S') (e : p'.b = p.b) {T : Nat → Prop} (f : Fr T W W') (hT : ¬ T p.b) : Sm p p' := by
  have r := h'.row
  rw [e] at r
  have := (row_ty (h.row.keep f hT) r).2
  simp only [Array.mk.injEq, List.cons.injEq, Value.map.injEq, Option.some.injEq, and_true] at this
  exact ⟨this.1.symm, this.2.1.symm, this.2.2.1.symm, this.2.2.2.symm⟩
theorem sm_low (h : IsI w p S) (e : Sm p p') : p'.m < w.heap.size ∧ p'.q < w.heap.size ∧ p'.l < w.heap.size ∧ p'.d < w.heap.size := by
  obtain ⟨e1, e2, e3, e4⟩ := e
  rw [e1, e2, e3, e4]
  exact ⟨h.mt.lt, h.mq.lt, h.ml.lt, h.mb.lt⟩
end

section
variable {w W W' : World} {p p' : Pb} {S S' : Ip} {b : Nat}
theorem row_off {w' : World} {row : Option Nat} {k : Nat} {cs : Array Value} {ty : TypeId} (r : Row w' k cs ty) (hr : ∀ r, row = some r → ∃ o : Obj, w'.heap[r]? = some o ∧ o.isCells = false) : ¬ some k = row := fun e => by
  obtain ⟨o, ho, hc⟩ := hr k e.symm
  rw [show w'.heap[k]? = some (.cells cs ty (0, 0)) from r] at ho
  cases ho
  cases hc
/-- A chain over what has turned apart from it. -/
theorem In.keepT {T : Nat → Prop} (h : In w p S b W p' S') (f : Fr T W W') (hT : ∀ k, p'.s S' k → ¬ T k) (hl : ∀ k, T k → w.heap.size ≤ k) : In w p S b W' p' S' :=
  ⟨⟨h.chg.is.keep f hT, ⟨f.os.trans h.chg.fr.os, f.tape.trans h.chg.fr.tape, f.output.trans h.chg.fr.output, Nat.le_trans h.chg.fr.size f.size, fun i hi hn => (f.block i (Nat.lt_of_lt_of_le hi h.chg.fr.size) (fun e => by have := hl i e; omega)).trans (h.chg.fr.block i hi hn)⟩, h.chg.new, h.chg.eb, h.chg.eB, h.chg.kp⟩, h.ok, h.eb⟩
theorem In.off3 (h : In w p S b W p' S') (hs : IsI w p S) (sm : Sm p p') {T : Nat → Prop} (hT : ∀ k, T k → w.heap.size ≤ k) (hd : ∀ k, T k → (∃ cs, Row W k cs 3) ∨ ∀ cs ty, ¬ Row W k cs ty) : ∀ k, p'.s S' k → ¬ T k := fun k hk e => by
  have lo := sm_low hs sm
  have hi := hT k e
  have ht : ∀ cs ty, Row W k cs ty → ty = 3 := fun cs ty r => by
    rcases hd k e with ⟨cs', r'⟩ | h'
    · exact (row_ty r r').1
    · exact (h' cs ty r).elim
  rcases hk with rfl | rfl | rfl | rfl | rfl | ⟨n, hn, rfl⟩ | ⟨s, o, z, hz, rfl⟩
  · exact absurd (ht _ _ h.chg.is.row) (by decide)
  · omega
  · omega
  · omega
  · omega
  · exact absurd (ht _ _ (h.chg.is.tk n hn)) (by decide)
  · obtain ⟨cs, r⟩ := h.chg.is.zrow hz
    exact absurd (ht _ _ r) (by decide)
theorem In.grown {row : Option Nat} {B : Nat} (h : In w p S b W p' S') (hs : IsI w p S) (sm : Sm p p') (hg : W.grownBy W' row) (hB : w.heap.size ≤ B) (hr : ∀ r, row = some r → B ≤ r ∧ ∃ o : Obj, W.heap[r]? = some o ∧ o.isCells = false) : In w p S b W' p' S' :=
  h.keepT (fr_of_grown' hg) (h.off3 hs sm (T := fun k => some k = row) (fun k e => by have := (hr k e.symm).1; omega) (fun k e => Or.inr fun cs ty r => row_off r (fun r e => (hr r e).2) e)) (fun k e => by have := (hr k e.symm).1; omega)
theorem keepsC {T : Nat → Prop} {B : Nat} (f : Fr T W W') (hT : ∀ k, T k → k < B ∨ ∃ cs ty, Row W k cs ty) : KeepsFrom B W W' :=
  ⟨f.size, fun k o hb hk hc => (f.block k (Array.getElem?_eq_some_iff.1 hk).1 (fun s => by
    rcases hT k s with h | ⟨cs, ty, r⟩
    · omega
    · rw [show W.heap[k]? = some (.cells cs ty (0, 0)) from r] at hk
      cases hk
      cases hc)).trans hk⟩

/-- Behind k rounds of 'cancelThose'. -/
structure Cx (w : World) (p : Pb) (S : Ip) (s o : Int) (G : Int → Bool) (gv : Value) (k : Nat) (W : World) : Prop where
  ex : ∃ p' v, In w p S p.b W p' (leaL S (((S.q s o).take k).filter G)) ∧ Sm p p' ∧ Row W (w.heap.size + 1 + 1 + 1) #[v] 37 ∧ W.ownsRow w.heap.size 3 1 v (((S.q s o).take k).filter G).length ((((S.q s o).take k).filter G).map (Value.int .i64)) ∧ (k = 0 → p'.V = p.V)
  r0 : Row W w.heap.size #[pv p.b] 24
  r2 : Row W (w.heap.size + 1 + 1) #[gv] 99
  r4 : Row W (w.heap.size + 1 + 1 + 1 + 1) #[pv p.b] 24
  r5 : Row W (w.heap.size + 1 + 1 + 1 + 1 + 1) #[.int .i64 s, .int .i64 o] 82
  old : QR W p.B (p.V s o) (S.q s o)
theorem ownsRow_grown {B n k : Nat} {e : TypeId} {v : Value} {xs : List Value} {row : Option Nat} (h : W.ownsRow B e k v n xs) (hg : W.grownBy W' row) (hr : ∀ r, row = some r → ∃ o : Obj, W.heap[r]? = some o ∧ o.isCells = false) : W'.ownsRow B e k v n xs :=
  ownsRow_at h fun q hq hl => (fr_of_grown' hg).block q hl (fun e => by
    obtain ⟨_, cur, r⟩ := own_rowB h hq
    exact row_off r hr e)
theorem cx_own {s o : Int} {G : Int → Bool} {gv : Value} {B : Nat} (hs : IsI w p S) (hB : w.heap.size ≤ B) : OwnFrom B (Cx w p S s o G gv) := by
  intro k W W' row h hg hr
  have hr' : ∀ r, row = some r → ∃ o : Obj, W.heap[r]? = some o ∧ o.isCells = false := fun r e => (hr r e).2
  obtain ⟨p', v, h1, h2, h3, h4, h5⟩ := h.ex
  refine ⟨⟨p', v, h1.grown hs h2 hg hB hr, h2, row_grown h3 hg hr', ownsRow_grown h4 hg hr', h5⟩, row_grown h.r0 hg hr', row_grown h.r2 hg hr', row_grown h.r4 hg hr', row_grown h.r5 hg hr', h.old.keep (fun z e hl => (fr_of_grown' hg).block _ hl (fun e' => ?_)) (fun _ _ => rfl)⟩
  have := h.old
  rw [e] at this
  obtain ⟨cs, r⟩ := this.row
  exact row_off r hr' e'
end

end Go.Proofs.Ytjobdfkfongjaaa
