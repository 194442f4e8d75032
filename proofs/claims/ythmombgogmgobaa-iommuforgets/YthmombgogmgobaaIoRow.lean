/-
  A controller's own blocks (a struct, a map of lines, a slice of records) told as what they hold ('IsIo'): laws on reading and writing them. No statement is proved here.
-/
import Derived.Test.YthmombgogmgobaaRows
import Derived.Test.YthmombgogmgobaaIoDefs
import Derived.WalkKit
import Derived.WalkSpells
import Derived.WalkLawsBesides
import Derived.BigQuiet
import Derived.Deep.QuietTactic
import Derived.Laws.StructEq
import Derived.Laws.ResultCell
import Derived.Laws.Rows
import Derived.Shelf.Abstract
import Derived.Maps.OwnSet
import Derived.Maps.RangeWalk
import Derived.Deep.AppendSrc
namespace Go.Proofs.Ythmombgogmgobaa
open Go.RowKit Go.Maps Go.WideMaps

theorem io_grown {w w' : World} {row : Option Nat} (h : w.grownBy w' row) : Fr (fun k => some k = row) w w' :=
  ⟨h.os, h.tape, h.output, h.size, fun k hk hn => h.block k hk hn⟩
theorem io_frmap {w w' : World} {b : Nat} (h : w.grownBy w' (some b)) : Fr (at' b) w w' := (io_grown h).mono (fun k _ e => (Option.some.inj e : k = b))
theorem io_fr0 {w w' : World} (h : w.grownBy w' none) : Fr none' w w' := (io_grown h).mono (fun k _ e => by cases e)
theorem io_void {fn : Func} {R : Ending → World → Prop} {a : Act} {w : World} (hd : a.defers = []) (hr : fn.results = #[]) (h : ∀ v, R (.returned v) w) : bodyPost Try.prog fn R .normal a w :=
  ⟨hd, .tuple #[], by simp [results, hr], h _⟩
theorem io_undrew {S : Nat → Prop} {w w' : World} (h : Fr S w.drew w') : Fr S w w' := ⟨h.os, h.tape, h.output, h.size, h.block⟩

/-! ### maps of lines -/
def ld (l : Li) : DataW Unit := .agg [.lit (.int .i64 l.s), .lit (.int .i64 l.p), .lit (.int .i64 l.f), .lit (.int .i64 l.r)]
def lVal (l : Li) : Value := .agg #[.int .i64 l.s, .int .i64 l.p, .int .i64 l.f, .int .i64 l.r]
def lCs (l : List Value) : Option (DataW Unit × List MemPlace) := match l with
  | [.int .i64 s, .int .i64 p, .int .i64 f, .int .i64 r] => some (ld ⟨s, p, f, r⟩, [])
  | _ => none
def lEl (v : Value) : Option (DataW Unit × List MemPlace) := match v with
  | .agg cs => lCs cs.toList
  | _ => none
theorem lEl_mk (s p f r : Int) : lEl (.agg #[.int .i64 s, .int .i64 p, .int .i64 f, .int .i64 r]) = some (ld ⟨s, p, f, r⟩, []) := rfl
theorem lEl_inv {v : Value} {y : DataW Unit × List MemPlace} (h : lEl v = some y) : ∃ l : Li, v = lVal l ∧ y = (ld l, []) := by
  unfold lEl at h
  split at h
  · rename_i cs
    unfold lCs at h
    split at h
    · rename_i s p f r e
      cases h
      exact ⟨⟨s, p, f, r⟩, by rw [show cs = #[.int .i64 s, .int .i64 p, .int .i64 f, .int .i64 r] from by rw [← e]]; rfl, rfl⟩
    · cases h
  · cases h
theorem ld_inj {l m : Li} (h : ld l = ld m) : l = m := by
  obtain ⟨a, b, c, d⟩ := l
  obtain ⟨a', b', c', d'⟩ := m
  simp only [ld, DataW.agg.injEq, List.cons.injEq, DataW.lit.injEq, Lit.int.injEq, true_and, and_true] at h
  obtain ⟨rfl, rfl, rfl, rfl⟩ := h
  rfl

def lcount (f : Nat → Option Li) : Nat → Nat
  | 0 => 0
  | k + 1 => lcount f k + if (f k).isSome then 1 else 0
theorem lcount_le (f : Nat → Option Li) (n : Nat) : lcount f n ≤ n := by
  induction n with
  | zero => simp [lcount]
  | succ k ih => simp only [lcount]; split <;> omega
theorem lcount_set (f : Nat → Option Li) (k : Nat) (o : Option Li) (n : Nat) :
    lcount (ioset f k o) n + (if k < n ∧ (f k).isSome = true then 1 else 0) = lcount f n + (if k < n ∧ o.isSome = true then 1 else 0) := by
  induction n with
  | zero => simp [lcount]
  | succ n ih =>
    simp only [lcount]
    by_cases e : k = n
    · subst e
      rw [ioset_same]
      simp at ih ⊢
      cases (f k).isSome <;> cases o.isSome <;> simp <;> omega
    · rw [ioset_other _ _ (fun h => e h.symm)]
      have e1 : (k < n + 1) = (k < n) := by simp; omega
      simp only [e1]
      omega

/-- A map's datum says this of its keys. -/
structure Ml (D : DataW Unit) (f : Nat → Option Li) : Prop where
  tidy : Tidy D
  has : ∀ k : Nat, Maps.has D (.int .i64 k) = (f k).isSome
  at' : ∀ (k : Nat) l, f k = some l → ∀ z, D.atKey (.int .i64 k) z = ld l
  key : ∀ kl, Maps.has D kl = true → ∃ k : Nat, k < 8 ∧ kl = .int .i64 k
  size : Maps.size D = lcount f 8

theorem lcount_none : ∀ n, lcount (fun _ => none) n = 0
  | 0 => rfl
  | k + 1 => by simp [lcount, lcount_none k]
theorem ml_nil : Ml (.map []) (fun _ => none) where
  tidy := tidy_empty
  has _ := rfl
  at' _ _ h := by cases h
  key kl h := by rw [has_eq] at h; cases h
  size := (lcount_none 8).symm

theorem iolit_ne {a b : Nat} (h : a ≠ b) : (Lit.int .i64 (a : Int)) ≠ .int .i64 (b : Int) := by simp; omega

theorem ml_put {D : DataW Unit} {f : Nat → Option Li} (h : Ml D f) {k : Nat} (hk : k < 8) (l : Li) : Ml (D.put (.int .i64 k) (ld l)) (ioset f k (some l)) := by
  have hkl : WideAt.IsKeyLit (.int .i64 (k : Int)) := trivial
  refine ⟨h.tidy.put hkl _, fun j => ?_, fun j q hj z => ?_, fun kl hh => ?_, ?_⟩
  · by_cases e : j = k
    · subst e; rw [ioset_same, has_put_same h.tidy.isMap hkl]; rfl
    · rw [ioset_other _ _ e, has_put_other (iolit_ne e)]; exact h.has j
  · by_cases e : j = k
    · subst e; rw [ioset_same] at hj; cases hj; exact atKey_put_same h.tidy.isMap hkl _ _
    · rw [ioset_other _ _ e] at hj; rw [atKey_put_other (iolit_ne e)]; exact h.at' j q hj z
  · by_cases e : kl = .int .i64 (k : Int)
    · exact ⟨k, hk, e⟩
    · rw [has_put_other e] at hh; exact h.key kl hh
  · rw [size_put h.tidy, h.size, h.has]
    have := lcount_set f k (some l) 8
    cases hf : (f k).isSome <;> simp [hf, hk] at this ⊢ <;> omega

theorem ml_del {D : DataW Unit} {f : Nat → Option Li} (h : Ml D f) {k : Nat} (hk : k < 8) : Ml (D.del (.int .i64 k)) (ioset f k none) := by
  refine ⟨h.tidy.del _, fun j => ?_, fun j q hj z => ?_, fun kl hh => ?_, ?_⟩
  · by_cases e : j = k
    · subst e; rw [ioset_same, has_del_same]; rfl
    · rw [ioset_other _ _ e, has_del_other (iolit_ne e)]; exact h.has j
  · by_cases e : j = k
    · subst e; rw [ioset_same] at hj; cases hj
    · rw [ioset_other _ _ e] at hj; rw [atKey_del_other (iolit_ne e)]; exact h.at' j q hj z
  · by_cases e : kl = .int .i64 (k : Int)
    · exact ⟨k, hk, e⟩
    · rw [has_del_other e] at hh; exact h.key kl hh
  · have h1 := size_del (k := .int .i64 (k : Int)) h.tidy
    rw [h.size, h.has] at h1
    have := lcount_set f k none 8
    cases hf : (f k).isSome <;> simp [hf, hk] at this h1 ⊢ <;> omega

/-- Block b is a map that says this. -/
def LM (w : World) (b : Nat) (f : Nat → Option Li) : Prop := ∃ D, w.ownsMap Try.prog 3 lEl b 8 D ∧ Ml D f

theorem io_tight {w : World} {b n m : Nat} {D : DataW Unit} (h : w.ownsMap Try.prog 3 lEl b n D) (hm : Maps.size D ≤ m) : w.ownsMap Try.prog 3 lEl b m D := by
  obtain ⟨es, clock, hb, F, _, rfl⟩ := h
  refine ⟨es, clock, hb, F, ?_, rfl⟩
  simpa [Maps.size, length_sorted] using hm

theorem lm_made (w : World) : LM (w.alloc (.map #[] 0)) w.heap.size (fun _ => none) := ⟨_, (World.ownsMap_made w _ _ _).mono (by omega), ml_nil⟩

theorem LM.lt {w : World} {b : Nat} {f : Nat → Option Li} (h : LM w b f) : b < w.heap.size := by obtain ⟨D, h, _⟩ := h; exact h.lt

theorem LM.keep {S : Nat → Prop} {w w' : World} {b : Nat} {f : Nat → Option Li} (h : LM w b f) (k : Fr S w w') (hs : ¬ S b) : LM w' b f := by
  have hl := h.lt
  obtain ⟨D, ⟨es, clock, hb, F, hn, hD⟩, hM⟩ := h
  exact ⟨D, ⟨es, clock, (k.block b hl hs).trans hb, F, hn, hD⟩, hM⟩

theorem iolaw3 : Keyed Try.prog 3 := int_keyed Try.underlying3
theorem iokey3 {k : Nat} (hk : k < 8) : keyOf Try.prog 3 (.int .i64 (k : Int)) = some (.int .i64 (k : Int)) := keyOf_int_mk Try.underlying3 (by
  have h1 : IntKind.i64.min = -9223372036854775808 := rfl
  have h2 : IntKind.i64.max = 9223372036854775807 := rfl
  simp only [Lit.wf, h1, h2, Bool.and_eq_true, decide_eq_true_eq]
  omega)
theorem zeroL (w : World) : (zeroValue 112).run Try.prog w = .ok (.agg #[.int .i64 0, .int .i64 0, .int .i64 0, .int .i64 0]) w := Try.zeroValue112 w

def l0 : Li := ⟨0, 0, 0, 0⟩
/-- What a look at an entry tells. -/
def lkL : Option Li → Li
  | some l => l
  | none => l0
theorem LM.look_none {w : World} {b : Nat} {f : Nat → Option Li} (h : LM w b f) {k : Nat} (hk : k < 8) (hf : f k = none) :
    (Instr.lookup 87 (.map (some b)) (.int .i64 (k : Int)) true).run Try.prog w = .ok (.tuple #[.agg #[.int .i64 0, .int .i64 0, .int .i64 0, .int .i64 0], .bool false]) w := by
  obtain ⟨D, h, M⟩ := h
  obtain ⟨v, ps, hrun, hv⟩ := h.look_ok iolaw3 Try.underlying87 (zeroL w) (lEl_mk 0 0 0 0) (iokey3 hk)
  rw [hrun, M.has, hf]
  obtain ⟨l, rfl, e⟩ := lEl_inv hv
  have e1 : D.atKey (.int .i64 (k : Int)) (ld l0) = ld l := congrArg Prod.fst e
  rw [atKey_of_not_has (by rw [M.has, hf]; rfl)] at e1
  rw [← ld_inj e1]
  rfl
theorem LM.look_some {w : World} {b : Nat} {f : Nat → Option Li} (h : LM w b f) {k : Nat} (hk : k < 8) {q : Li} (hf : f k = some q) :
    (Instr.lookup 87 (.map (some b)) (.int .i64 (k : Int)) true).run Try.prog w = .ok (.tuple #[.agg #[.int .i64 q.s, .int .i64 q.p, .int .i64 q.f, .int .i64 q.r], .bool true]) w := by
  obtain ⟨D, h, M⟩ := h
  obtain ⟨v, ps, hrun, hv⟩ := h.look_ok iolaw3 Try.underlying87 (zeroL w) (lEl_mk 0 0 0 0) (iokey3 hk)
  rw [hrun, M.has, hf]
  obtain ⟨l, rfl, e⟩ := lEl_inv hv
  have e1 : D.atKey (.int .i64 (k : Int)) (ld l0) = ld l := congrArg Prod.fst e
  rw [M.at' k q hf] at e1
  rw [← ld_inj e1]
  rfl

theorem LM.store {w : World} {b : Nat} {f : Nat → Option Li} (h : LM w b f) {k : Nat} (hk : k < 8) (q : Li) :
    ∃ w', (Instr.mapUpdate 87 (.map (some b)) (.int .i64 (k : Int)) (.agg #[.int .i64 q.s, .int .i64 q.p, .int .i64 q.f, .int .i64 q.r])).run Try.prog w = .ok () w' ∧ LM w' b (ioset f k (some q)) ∧ Fr (at' b) w w' := by
  obtain ⟨D, h, M⟩ := h
  obtain ⟨w', hrun, h', ht⟩ := h.store iolaw3 Try.underlying87 (by simp only [maxLen]; omega) (iokey3 hk) (lEl_mk q.s q.p q.f q.r)
  have M' := ml_put M hk q
  exact ⟨w', hrun, ⟨_, io_tight h' (by rw [M'.size]; exact lcount_le _ _), M'⟩, io_frmap ht.grown⟩

theorem LM.drop {w : World} {b : Nat} {f : Nat → Option Li} (h : LM w b f) {k : Nat} (hk : k < 8) :
    ∃ w', (∀ ty, (Builtin.delete_ #[87, 3] ty #[.map (some b), .int .i64 (k : Int)]).run Try.prog w = .ok (.tuple #[]) w') ∧ LM w' b (ioset f k none) ∧ Fr (at' b) w w' := by
  obtain ⟨D, h, M⟩ := h
  obtain ⟨w', hrun, h', ht⟩ := h.drop iolaw3 Try.underlying87 (iokey3 hk) 0
  have M' := ml_del M hk
  refine ⟨w', fun ty => ?_, ⟨_, io_tight h' (by rw [M'.size]; exact lcount_le _ _), M'⟩, io_frmap ht.grown⟩
  rw [← hrun]
  rfl

/-! ### slices of records -/
def rcL : List Rc → List Value
  | [] => []
  | x :: l => .int .i64 x.s :: .int .i64 x.p :: .int .i64 x.k :: .bool x.wr :: rcL l
theorem rcL_length : ∀ l : List Rc, (rcL l).length = l.length * 4
  | [] => rfl
  | x :: l => by simp [rcL, rcL_length l]; omega
theorem rcL_append : ∀ l m : List Rc, rcL (l ++ m) = rcL l ++ rcL m
  | [], _ => rfl
  | x :: l, m => by simp [rcL, rcL_append l m]
theorem rcL_at : ∀ (l : List Rc) (k : Nat) (x : Rc), l[k]? = some x → (rcL l)[k * 4]? = some (.int .i64 x.s) ∧ (rcL l)[k * 4 + 1]? = some (.int .i64 x.p) ∧ (rcL l)[k * 4 + 2]? = some (.int .i64 x.k) ∧ (rcL l)[k * 4 + 3]? = some (.bool x.wr)
  | [], k, x, h => by simp at h
  | y :: l, 0, x, h => by simp at h; subst h; exact ⟨rfl, rfl, rfl, rfl⟩
  | y :: l, k + 1, x, h => by
    have := rcL_at l k x (by simpa using h)
    have e0 : (k + 1) * 4 = k * 4 + 4 := by omega
    simp only [rcL, e0]
    exact this
theorem rcL_one : ∀ (l : List Rc) (u : Value), u ∈ rcL l → u.oneCell' = true
  | [], _, h => by cases h
  | x :: l, u, h => by
    simp only [rcL, List.mem_cons] at h
    rcases h with rfl | rfl | rfl | rfl | h
    · rfl
    · rfl
    · rfl
    · rfl
    · exact rcL_one l u h

/-- A slice of records, wherever in its block it lies. -/
def RcS (w : World) (v : Value) (l : List Rc) : Prop :=
  (v = .slice none 0 0 ∧ l = []) ∨ ∃ g o cap cur, v = .slice (some ⟨g, o, none⟩) l.length cap ∧ Row w g cur 58 ∧ l.length ≤ cap ∧ o + cap * 4 ≤ cur.size ∧ ∀ j u, (rcL l)[j]? = some u → cur[o + j]? = some u

theorem rcS_nil (w : World) : RcS w (.slice none 0 0) [] := Or.inl ⟨rfl, rfl⟩
theorem RcS.keep {S : Nat → Prop} {w w' : World} {v : Value} {l : List Rc} (h : RcS w v l) (f : Fr S w w') (hs : ∀ g, some g = v.ownBlock → ¬ S g) : RcS w' v l := by
  rcases h with h | ⟨g, o, cap, cur, rfl, hr, h1, h2, h3⟩
  · exact Or.inl h
  · exact Or.inr ⟨g, o, cap, cur, rfl, hr.keep f (hs g rfl), h1, h2, h3⟩
theorem RcS.lt {w : World} {v : Value} {l : List Rc} (h : RcS w v l) : ∀ g, some g = v.ownBlock → g < w.heap.size := by
  intro g hg
  rcases h with h | ⟨g', o, cap, cur, rfl, hr, _⟩
  · rw [h.1] at hg; cases hg
  · cases hg; exact hr.lt
theorem RcS.form {w : World} {v : Value} {l : List Rc} (h : RcS w v l) : ∃ a cap, v = .slice a l.length cap := by
  rcases h with ⟨rfl, rfl⟩ | ⟨g, o, cap, cur, rfl, _⟩
  · exact ⟨_, _, rfl⟩
  · exact ⟨_, _, rfl⟩
theorem RcS.cells {w : World} {g o n cap : Nat} {l : List Rc} (h : RcS w (.slice (some ⟨g, o, none⟩) n cap) l) {k : Nat} {x : Rc} (hk : l[k]? = some x) :
    w.cell? ⟨g, o + k * 4, none⟩ = some (.int .i64 x.s) ∧ w.cell? ⟨g, o + k * 4 + 1, none⟩ = some (.int .i64 x.p) ∧ w.cell? ⟨g, o + k * 4 + 2, none⟩ = some (.int .i64 x.k) ∧ w.cell? ⟨g, o + k * 4 + 3, none⟩ = some (.bool x.wr) := by
  rcases h with ⟨h, _⟩ | ⟨g', o', cap', cur, e, hr, h1, h2, h3⟩
  · cases h
  · cases e
    obtain ⟨c0, c1, c2, c3⟩ := rcL_at l k x hk
    exact ⟨(hr.cell _).trans (h3 _ _ c0), (hr.cell _).trans (h3 _ _ c1), (hr.cell _).trans (h3 _ _ c2), (hr.cell _).trans (h3 _ _ c3)⟩
theorem RcS.some {w : World} {v : Value} {x : Rc} {l : List Rc} (h : RcS w v (x :: l)) : ∃ g o cap, v = .slice (.some ⟨g, o, none⟩) (l.length + 1) cap ∧ l.length + 1 ≤ cap := by
  rcases h with ⟨_, h⟩ | ⟨g, o, cap, cur, rfl, _, h, _⟩
  · cases h
  · exact ⟨g, o, cap, rfl, h⟩
/-- All but the first; where there is no room behind, the address stays. -/
theorem RcS.tail {w : World} {g o cap : Nat} {x : Rc} {l : List Rc} (h : RcS w (.slice (.some ⟨g, o, none⟩) (l.length + 1) cap) (x :: l)) : RcS w (.slice (.some ⟨g, if cap = 1 then o else o + 4, none⟩) l.length (cap - 1)) l := by
  rcases h with ⟨h, _⟩ | ⟨g', o', cap', cur, e, hr, h1, h2, h3⟩
  · cases h
  · cases e
    simp only [List.length_cons] at h1
    by_cases hc : cap = 1
    · subst hc
      have hl : l = [] := List.eq_nil_of_length_eq_zero (by omega)
      subst hl
      exact Or.inr ⟨g, o, 0, cur, rfl, hr, Nat.le_refl _, by omega, fun j u hu => by simp [rcL] at hu⟩
    · rw [if_neg hc]
      exact Or.inr ⟨g, o + 4, cap - 1, cur, rfl, hr, by omega, by omega, fun j u hu => by
        have := h3 (j + 4) u (by simpa [rcL] using hu)
        rw [← this]; congr 1; omega⟩

theorem setCells_at (l : List Value) : ∀ (w : World) (g o : Nat) (cur : Array Value) (t : TypeId), Row w g cur t → ∃ cur', Row (w.setCells g o l) g cur' t ∧ cur'.size = cur.size ∧ (∀ j, j < o → cur'[j]? = cur[j]?) ∧ (∀ j u, l[j]? = some u → o + j < cur.size → cur'[o + j]? = some u) := by
  induction l with
  | nil => intro w g o cur t h; exact ⟨cur, h, rfl, fun _ _ => rfl, fun j u hu => by simp at hu⟩
  | cons a l ih =>
    intro w g o cur t h
    obtain ⟨cur', h1, h2, h3, h4⟩ := ih (w.setCell ⟨g, o, none⟩ a) g (o + 1) _ t (h.setCell o a)
    refine ⟨cur', h1, by rw [h2]; simp, fun j hj => ?_, fun j u hu hj => ?_⟩
    · rw [h3 j (by omega), Array.getElem?_setIfInBounds, if_neg (by omega)]
    · cases j with
      | zero =>
        simp at hu
        subst hu
        rw [Nat.add_zero, h3 o (by omega), Array.getElem?_setIfInBounds, if_pos rfl, if_pos (by simpa using hj)]
      | succ j =>
        have := h4 j u (by simpa using hu) (by simp; omega)
        rw [← this]; congr 1; omega
theorem io_frcells (g : Nat) (l : List Value) : ∀ (w0 w : World) (o : Nat), Fr (at' g) w0 w → Fr (at' g) w0 (w.setCells g o l) := by
  induction l with
  | nil => intro w0 w o h; exact h
  | cons a l ih => intro w0 w o h; exact ih w0 _ (o + 1) (fr_set w0 g o a h)

theorem info_rec : (Try.prog.info? 58).map (fun i => (i.zero, i.bytes, i.size)) = some (some (.agg #[.int .i64 0, .int .i64 0, .int .i64 0, .bool false]), 32, 4) := by kernel_rfl

/-- All of another slice behind it. -/
theorem RcS.appendL {w : World} {v : Value} {l l2 : List Rc} (h : RcS w v l) (hl : l.length + l2.length < 1000) (g2 o2 n2 c2 : Nat) (hu : RcS w (.slice (.some ⟨g2, o2, none⟩) n2 c2) l2) (hne : v.ownBlock ≠ none ∨ 0 < l2.length) :
    ∃ g' o' cap' w', (∀ ty, (Builtin.append_ #[55, 55] ty #[v, .slice (.some ⟨g2, o2, none⟩) n2 c2]).run Try.prog w = .ok (.slice (.some ⟨g', o', none⟩) (l.length + l2.length) cap') w') ∧ RcS w' (.slice (.some ⟨g', o', none⟩) (l.length + l2.length) cap') (l ++ l2) ∧ Fr (fun k => .some k = v.ownBlock) w w' ∧ (v.ownBlock = .some g' ∨ g' = w.heap.size) := by
  have hi := info_rec
  cases hq : Try.prog.info? 58 with
  | none => simp [hq] at hi
  | some i =>
    rw [hq] at hi
    simp only [Option.map_some, Option.some.injEq, Prod.mk.injEq] at hi
    obtain ⟨hz, hby, hs⟩ := hi
    rcases hu with ⟨hu, _⟩ | ⟨g2', o2', c2', cur2, hue, hr2, hu1, hu2, hu3⟩
    · cases hu
    cases hue
    have hnews : ∀ j u, (rcL l2)[j]? = .some u → w.cell? ((⟨g2, o2, none⟩ : Addr).add j) = .some u := fun j u hu => by
      rw [add_lit', hr2.cell]
      exact hu3 j u hu
    have hnl : (rcL l2).length = l2.length * i.size := by rw [hs]; exact rcL_length l2
    have src : Src Try.prog i.size 55 (.slice (.some ⟨g2, o2, none⟩) l2.length c2) l2.length (rcL l2) w := Go.Src.ofSlice w Try.underlying55 ⟨g2, o2, none⟩ l2.length c2 (rcL l2) hnl hnews (rcL_one _)
    have gr : ∀ (base : Option Addr) (n cap : Nat), n = l.length → cap < n + l2.length → (Builtin.firstCells i.size n (.slice base n cap)).run Try.prog w.drew = .ok (rcL l).toArray w.drew →
        ∃ g' o' cap' w', (∀ ty, (Builtin.append_ #[55, 55] ty #[.slice base n cap, .slice (.some ⟨g2, o2, none⟩) l2.length c2]).run Try.prog w = .ok (.slice (.some ⟨g', o', none⟩) (l.length + l2.length) cap') w') ∧ RcS w' (.slice (.some ⟨g', o', none⟩) (l.length + l2.length) cap') (l ++ l2) ∧ Fr none' w w' ∧ g' = w.heap.size := by
      intro base n cap hn hc hold
      subst hn
      refine ⟨_, _, _, _, fun ty => run_append_grow_src w 55 55 ty 58 i _ Try.underlying55 hq hz base l.length cap (rcL l) hold (.slice (.some ⟨g2, o2, none⟩) l2.length c2) l2.length (rcL l2) src hc (by omega) (growslice_fits (by omega) (by rw [hby]; omega)), ?_, (Fr.refl none' w).drew.alloc _, rfl⟩
      have hge := grownCap_ge w (l.length + l2.length) cap 58
      refine Or.inr ⟨w.heap.size, 0, grownCap w (l.length + l2.length) cap 58, _, by rw [List.length_append], row_alloc w.drew _ _, by simpa using hge, ?_, fun j u hu => ?_⟩
      · simp only [Array.size_append, List.size_toArray, size_zeroCells, List.length_append, rcL_length, Value.cells]
        simp
        omega
      · rw [rcL_append] at hu
        rw [Nat.zero_add, Array.getElem?_append_left (by
          obtain ⟨hj, _⟩ := List.getElem?_eq_some_iff.mp hu
          simpa using hj)]
        simpa using hu
    rcases h with ⟨rfl, rfl⟩ | ⟨g, o, cap, cur, rfl, hr, h1, h2, h3⟩
    · have h0 : 0 < l2.length := by
        rcases hne with hne | hne
        · exact absurd rfl hne
        · exact hne
      obtain ⟨g', o', cap', w', a, b, c, d⟩ := gr none 0 0 rfl (by omega) (by simp [Builtin.firstCells, rcL])
      exact ⟨g', o', cap', w', a, b, c.mono (fun _ _ h => h.elim), Or.inr d⟩
    · by_cases hroom : l.length + l2.length ≤ cap
      · have hsz : ∀ j, j < (rcL l2).length → o + l.length * i.size + j < cur.size := fun j hj => by rw [hnl, hs] at hj; rw [hs]; omega
        have hR := fun ty => run_append_room_src w 55 55 ty 58 i Try.underlying55 hq g o l.length cap (.slice (.some ⟨g2, o2, none⟩) l2.length c2) l2.length (rcL l2) src hroom
          (fun j hj => by rw [hr.cell]; simp [hsz j hj]) (fun j hj => hr.frozen _)
        obtain ⟨cur', r1, r2, r3, r4⟩ := setCells_at (rcL l2) w g (o + l.length * i.size) cur _ hr
        refine ⟨g, o, cap, _, hR, Or.inr ⟨g, o, cap, cur', by simp, r1, by simpa using hroom, by rw [r2]; exact h2, fun j u hu => ?_⟩, (io_frcells g _ w w _ (Fr.refl _ w)).mono (fun k _ e => by rw [show k = g from e]; rfl), Or.inl rfl⟩
        rw [rcL_append] at hu
        rcases Nat.lt_or_ge j (rcL l).length with hj | hj
        · rw [List.getElem?_append_left hj] at hu
          rw [rcL_length] at hj
          rw [r3 (o + j) (by rw [hs]; omega)]
          exact h3 j u hu
        · rw [List.getElem?_append_right hj] at hu
          rw [rcL_length] at hj hu
          have hb := (List.getElem?_eq_some_iff.mp hu).1
          have := r4 (j - l.length * 4) u hu (hsz _ hb)
          have e : o + j = o + l.length * i.size + (j - l.length * 4) := by rw [hs]; omega
          rw [e]
          exact this
      · have hold : (Builtin.firstCells i.size l.length (.slice (.some ⟨g, o, none⟩) l.length cap)).run Try.prog w.drew = .ok (rcL l).toArray w.drew :=
          run_firstCells_some (P := Try.prog) w.drew i.size l.length ⟨g, o, none⟩ l.length cap (rcL l) (by rw [rcL_length, hs]) (fun j u hu => by
            rw [add_lit', hr.drew.cell]
            exact h3 j u hu)
        obtain ⟨g', o', cap', w', a, b, c, d⟩ := gr _ l.length cap rfl (by omega) hold
        exact ⟨g', o', cap', w', a, b, c.mono (fun _ _ h => h.elim), Or.inr d⟩

theorem rcS_one {w : World} (x : Rc) (B : Nat) (hB : Row w B #[.int .i64 x.s, .int .i64 x.p, .int .i64 x.k, .bool x.wr] 58) : RcS w (.slice (.some ⟨B, 0, none⟩) 1 1) [x] :=
  Or.inr ⟨B, 0, 1, _, rfl, hB, Nat.le_refl _, Nat.le_refl _, fun j u hu => by
    rw [Nat.zero_add]
    match j, hu with
    | 0, hu => exact hu
    | 1, hu => exact hu
    | 2, hu => exact hu
    | 3, hu => exact hu
    | j + 4, hu => simp [rcL] at hu⟩
/-- One more, from a block of its own. -/
theorem RcS.append {w : World} {v : Value} {l : List Rc} (h : RcS w v l) (hl : l.length < 900) (x : Rc) (B : Nat) (hB : Row w B #[.int .i64 x.s, .int .i64 x.p, .int .i64 x.k, .bool x.wr] 58) :
    ∃ g' o' cap' w', (∀ ty, (Builtin.append_ #[55, 55] ty #[v, .slice (.some ⟨B, 0, none⟩) 1 1]).run Try.prog w = .ok (.slice (.some ⟨g', o', none⟩) (l.length + 1) cap') w') ∧ RcS w' (.slice (.some ⟨g', o', none⟩) (l.length + 1) cap') (l ++ [x]) ∧ Fr (fun k => .some k = v.ownBlock) w w' ∧ (v.ownBlock = .some g' ∨ g' = w.heap.size) :=
  h.appendL (l2 := [x]) (by simp; omega) B 0 1 1 (rcS_one x B hB) (Or.inr (by simp))

/-- The same, as a step of a region that draws its order. -/
theorem step_append_rc {ops : Array Oper} {o : Oper} {a : Act} {w : World} {K : Act → World → Prop} {Q : Exit → Act → World → Prop} {E : Prop} (hgd : o.guard = none) (s x : Operand)
    (ho : o.op = .call { callee := .builtin .append, args := #[s, x], argTypes := #[55, 55] }) (v : Value) (l : List Rc) (hs : a.eval s = v) (h : RcS w v l) (hl : l.length < 900) (y : Rc) (B : Nat) (hx : a.eval x = .slice (.some ⟨B, 0, none⟩) 1 1)
    (hB : Row w B #[.int .i64 y.s, .int .i64 y.p, .int .i64 y.k, .bool y.wr] 58)
    (hK : ∀ g' o' cap' w', RcS w' (.slice (.some ⟨g', o', none⟩) (l.length + 1) cap') (l ++ [y]) → Fr (fun k => .some k = v.ownBlock) w w' → (v.ownBlock = .some g' ∨ g' = w.heap.size) → K (a.put o.dst (.slice (.some ⟨g', o', none⟩) (l.length + 1) cap')) w') :
    if Region.wanted o (yielded ops a.tmps) = true then Oper.wp Try.prog o a w K Q else E := by
  have hw : Region.wanted o (yielded ops a.tmps) = true := by simp [Region.wanted, hgd]
  rw [if_pos hw]
  obtain ⟨g', o', cap', w', hrun, h1, h2, h3⟩ := h.append hl y B hB
  unfold Oper.wp
  simp [execOp, ho, resolve, invoke, builtin, hs, hx, hrun, Result.andThen]
  exact hK g' o' cap' w' h1 h2 h3

/-- All of another slice, as a step of a region that draws its order. -/
theorem step_append_rcL {ops : Array Oper} {o : Oper} {a : Act} {w : World} {K : Act → World → Prop} {Q : Exit → Act → World → Prop} {E : Prop} (hgd : o.guard = none) (s x : Operand)
    (ho : o.op = .call { callee := .builtin .append, args := #[s, x], argTypes := #[55, 55] }) (v : Value) (l l2 : List Rc) (hs : a.eval s = v) (h : RcS w v l) (hl : l.length + l2.length < 1000) (g2 o2 n2 c2 : Nat) (hx : a.eval x = .slice (.some ⟨g2, o2, none⟩) n2 c2)
    (hu : RcS w (.slice (.some ⟨g2, o2, none⟩) n2 c2) l2) (hne : v.ownBlock ≠ none ∨ 0 < l2.length)
    (hK : ∀ g' o' cap' w', RcS w' (.slice (.some ⟨g', o', none⟩) (l.length + l2.length) cap') (l ++ l2) → Fr (fun k => .some k = v.ownBlock) w w' → (v.ownBlock = .some g' ∨ g' = w.heap.size) → K (a.put o.dst (.slice (.some ⟨g', o', none⟩) (l.length + l2.length) cap')) w') :
    if Region.wanted o (yielded ops a.tmps) = true then Oper.wp Try.prog o a w K Q else E := by
  have hw : Region.wanted o (yielded ops a.tmps) = true := by simp [Region.wanted, hgd]
  rw [if_pos hw]
  obtain ⟨g', o', cap', w', hrun, h1, h2, h3⟩ := h.appendL hl g2 o2 n2 c2 hu hne
  unfold Oper.wp
  simp [execOp, ho, resolve, invoke, builtin, hs, hx, hrun, Result.andThen]
  exact hK g' o' cap' w' h1 h2 h3

/-- The same at a plain region's operation. -/
theorem wpList_append_rcL {ops : Array Oper} {rest : List Oper} {o : Oper} {a : Act} {w : World} {Q : Exit → Act → World → Prop} (hgd : o.guard = none) (s x : Operand)
    (ho : o.op = .call { callee := .builtin .append, args := #[s, x], argTypes := #[55, 55] }) (v : Value) (l l2 : List Rc) (hs : a.eval s = v) (h : RcS w v l) (hl : l.length + l2.length < 1000) (g2 o2 n2 c2 : Nat) (hx : a.eval x = .slice (.some ⟨g2, o2, none⟩) n2 c2)
    (hu : RcS w (.slice (.some ⟨g2, o2, none⟩) n2 c2) l2) (hne : v.ownBlock ≠ none ∨ 0 < l2.length)
    (hK : ∀ g' o' cap' w', RcS w' (.slice (.some ⟨g', o', none⟩) (l.length + l2.length) cap') (l ++ l2) → Fr (fun k => .some k = v.ownBlock) w w' → (v.ownBlock = .some g' ∨ g' = w.heap.size) → wpList Try.prog ops Q rest (a.put o.dst (.slice (.some ⟨g', o', none⟩) (l.length + l2.length) cap')) w') : wpList Try.prog ops Q (o :: rest) a w := by
  refine wpList_plain hgd fun K hK' => ?_
  obtain ⟨g', o', cap', w', hrun, h1, h2, h3⟩ := h.appendL hl g2 o2 n2 c2 hu hne
  unfold Oper.wp
  simp [execOp, ho, resolve, invoke, builtin, hs, hx, hrun, Result.andThen]
  exact hK' _ _ (hK g' o' cap' w' h1 h2 h3)

end Go.Proofs.Ythmombgogmgobaa
