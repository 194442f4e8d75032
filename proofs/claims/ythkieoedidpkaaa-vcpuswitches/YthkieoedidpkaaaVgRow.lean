/-
  The controller's own blocks (a struct and two maps) told as what they hold ('IsVg'): laws on reading and writing them. No statement is proved here.
-/
import Derived.Test.YthkieoedidpkaaaRows
import Derived.Test.YthkieoedidpkaaaVgDefs
import Derived.WalkKit
import Derived.WalkSpells
import Derived.WalkLawsBesides
import Derived.BigQuiet
import Derived.Deep.QuietTactic
import Derived.Laws.StructEq
import Derived.Laws.ResultCell
import Derived.Laws.Rows
import Derived.Shelf.Abstract
import Derived.Maps.OwnSet
import Derived.Maps.RangeWalk
namespace Go.Proofs.Ythkieoedidpkaaa
open Go.RowKit Go.Maps Go.WideMaps

theorem Fr.undrew {S : Nat → Prop} {w w' : World} (h : Fr S w.drew w') : Fr S w w' := ⟨h.os, h.tape, h.output, h.size, h.block⟩
theorem fr_of_grown {w w' : World} {row : Option Nat} (h : w.grownBy w' row) : Fr (fun k => some k = row) w w' :=
  ⟨h.os, h.tape, h.output, h.size, fun k hk hn => h.block k hk hn⟩
theorem fr_map {w w' : World} {b : Nat} (h : w.grownBy w' (some b)) : Fr (at' b) w w' := (fr_of_grown h).mono (fun k _ e => (Option.some.inj e : k = b))
theorem fr_grown0 {w w' : World} (h : w.grownBy w' none) : Fr none' w w' := (fr_of_grown h).mono (fun k _ e => by cases e)

theorem post_void {fn : Func} {R : Ending → World → Prop} {a : Act} {w : World} (hd : a.defers = []) (hr : fn.results = #[]) (h : ∀ v, R (.returned v) w) : bodyPost Try.prog fn R .normal a w :=
  ⟨hd, .tuple #[], by simp [results, hr], h _⟩

/-! ### maps of grades -/
def gd (p : Int) (l : Bool) : DataW Unit := .agg [.lit (.int .i64 p), .lit (.bool l)]
def gCs (l : List Value) : Option (DataW Unit × List MemPlace) := match l with
  | [.int .i64 p, .bool l] => some (gd p l, [])
  | _ => none
def gEl (v : Value) : Option (DataW Unit × List MemPlace) := match v with
  | .agg cs => gCs cs.toList
  | _ => none
theorem gEl_mk (p : Int) (l : Bool) : gEl (.agg #[.int .i64 p, .bool l]) = some (gd p l, []) := rfl
theorem gEl_inv {v : Value} {y : DataW Unit × List MemPlace} (h : gEl v = some y) : ∃ p l, v = .agg #[.int .i64 p, .bool l] ∧ y = (gd p l, []) := by
  unfold gEl at h
  split at h
  · rename_i cs
    unfold gCs at h
    split at h
    · rename_i p l e
      cases h
      exact ⟨p, l, by rw [show cs = #[.int .i64 p, .bool l] from by rw [← e]], rfl⟩
    · cases h
  · cases h
theorem gd_inj {p q : Int} {l m : Bool} (h : gd p l = gd q m) : p = q ∧ l = m := by
  simp only [gd, DataW.agg.injEq, List.cons.injEq, DataW.lit.injEq, Lit.int.injEq, Lit.bool.injEq, true_and, and_true] at h
  exact h

def cnt (f : Nat → Option (Int × Bool)) : Nat → Nat
  | 0 => 0
  | k + 1 => cnt f k + if (f k).isSome then 1 else 0
theorem cnt_le (f : Nat → Option (Int × Bool)) (n : Nat) : cnt f n ≤ n := by
  induction n with
  | zero => simp [cnt]
  | succ k ih => simp only [cnt]; split <;> omega
theorem cnt_set (f : Nat → Option (Int × Bool)) (k : Nat) (o : Option (Int × Bool)) (n : Nat) :
    cnt (set1 f k o) n + (if k < n ∧ (f k).isSome = true then 1 else 0) = cnt f n + (if k < n ∧ o.isSome = true then 1 else 0) := by
  induction n with
  | zero => simp [cnt]
  | succ n ih =>
    simp only [cnt]
    by_cases e : k = n
    · subst e
      rw [set1_same]
      simp at ih ⊢
      cases (f k).isSome <;> cases o.isSome <;> simp <;> omega
    · rw [set1_other _ _ (fun h => e h.symm)]
      have e1 : (k < n + 1) = (k < n) := by simp; omega
      simp only [e1]
      omega

/-- A map's datum says this of its keys. -/
structure Mg (D : DataW Unit) (f : Nat → Option (Int × Bool)) : Prop where
  tidy : Tidy D
  has : ∀ k : Nat, Maps.has D (.int .i64 k) = (f k).isSome
  at' : ∀ (k : Nat) p l, f k = some (p, l) → ∀ z, D.atKey (.int .i64 k) z = gd p l
  key : ∀ kl, Maps.has D kl = true → ∃ k : Nat, k < 64 ∧ kl = .int .i64 k
  size : Maps.size D = cnt f 64

theorem cnt_none : ∀ n, cnt (fun _ => none) n = 0
  | 0 => rfl
  | k + 1 => by simp [cnt, cnt_none k]
theorem mg_nil : Mg (.map []) (fun _ => none) where
  tidy := tidy_empty
  has _ := rfl
  at' _ _ _ h := by cases h
  key kl h := by rw [has_eq] at h; cases h
  size := (cnt_none 64).symm

theorem lit_ne {a b : Nat} (h : a ≠ b) : (Lit.int .i64 (a : Int)) ≠ .int .i64 (b : Int) := by simp; omega

theorem mg_put {D : DataW Unit} {f : Nat → Option (Int × Bool)} (h : Mg D f) {k : Nat} (hk : k < 64) (p : Int) (l : Bool) : Mg (D.put (.int .i64 k) (gd p l)) (set1 f k (some (p, l))) := by
  have hkl : WideAt.IsKeyLit (.int .i64 (k : Int)) := trivial
  refine ⟨h.tidy.put hkl _, fun j => ?_, fun j q m hj z => ?_, fun kl hh => ?_, ?_⟩
  · by_cases e : j = k
    · subst e; rw [set1_same, has_put_same h.tidy.isMap hkl]; rfl
    · rw [set1_other _ _ e, has_put_other (lit_ne e)]; exact h.has j
  · by_cases e : j = k
    · subst e; rw [set1_same] at hj; cases hj; exact atKey_put_same h.tidy.isMap hkl _ _
    · rw [set1_other _ _ e] at hj; rw [atKey_put_other (lit_ne e)]; exact h.at' j q m hj z
  · by_cases e : kl = .int .i64 (k : Int)
    · exact ⟨k, hk, e⟩
    · rw [has_put_other e] at hh; exact h.key kl hh
  · rw [size_put h.tidy, h.size, h.has]
    have := cnt_set f k (some (p, l)) 64
    cases hf : (f k).isSome <;> simp [hf, hk] at this ⊢ <;> omega

theorem mg_del {D : DataW Unit} {f : Nat → Option (Int × Bool)} (h : Mg D f) {k : Nat} (hk : k < 64) : Mg (D.del (.int .i64 k)) (set1 f k none) := by
  refine ⟨h.tidy.del _, fun j => ?_, fun j q m hj z => ?_, fun kl hh => ?_, ?_⟩
  · by_cases e : j = k
    · subst e; rw [set1_same, has_del_same]; rfl
    · rw [set1_other _ _ e, has_del_other (lit_ne e)]; exact h.has j
  · by_cases e : j = k
    · subst e; rw [set1_same] at hj; cases hj
    · rw [set1_other _ _ e] at hj; rw [atKey_del_other (lit_ne e)]; exact h.at' j q m hj z
  · by_cases e : kl = .int .i64 (k : Int)
    · exact ⟨k, hk, e⟩
    · rw [has_del_other e] at hh; exact h.key kl hh
  · have h1 := size_del (k := .int .i64 (k : Int)) h.tidy
    rw [h.size, h.has] at h1
    have := cnt_set f k none 64
    cases hf : (f k).isSome <;> simp [hf, hk] at this h1 ⊢ <;> omega

/-- Block b is a map that says this. -/
def GM (w : World) (b : Nat) (f : Nat → Option (Int × Bool)) : Prop := ∃ D, w.ownsMap Try.prog 3 gEl b 64 D ∧ Mg D f

theorem own_tight {w : World} {b n m : Nat} {D : DataW Unit} (h : w.ownsMap Try.prog 3 gEl b n D) (hm : Maps.size D ≤ m) : w.ownsMap Try.prog 3 gEl b m D := by
  obtain ⟨es, clock, hb, F, _, rfl⟩ := h
  refine ⟨es, clock, hb, F, ?_, rfl⟩
  simpa [Maps.size, length_sorted] using hm

theorem gm_made (w : World) : GM (w.alloc (.map #[] 0)) w.heap.size (fun _ => none) := ⟨_, (World.ownsMap_made w _ _ _).mono (by omega), mg_nil⟩

theorem GM.lt {w : World} {b : Nat} {f : Nat → Option (Int × Bool)} (h : GM w b f) : b < w.heap.size := by obtain ⟨D, h, _⟩ := h; exact h.lt

theorem GM.keep {S : Nat → Prop} {w w' : World} {b : Nat} {f : Nat → Option (Int × Bool)} (h : GM w b f) (k : Fr S w w') (hs : ¬ S b) : GM w' b f := by
  have hl := h.lt
  obtain ⟨D, ⟨es, clock, hb, F, hn, hD⟩, hM⟩ := h
  exact ⟨D, ⟨es, clock, (k.block b hl hs).trans hb, F, hn, hD⟩, hM⟩

theorem law3 : Keyed Try.prog 3 := int_keyed Try.underlying3
theorem key3 {k : Nat} (hk : k < 64) : keyOf Try.prog 3 (.int .i64 (k : Int)) = some (.int .i64 (k : Int)) := keyOf_int_mk Try.underlying3 (by
  have h1 : IntKind.i64.min = -9223372036854775808 := rfl
  have h2 : IntKind.i64.max = 9223372036854775807 := rfl
  simp only [Lit.wf, h1, h2, Bool.and_eq_true, decide_eq_true_eq]
  omega)
theorem zeroG (w : World) : (zeroValue 81).run Try.prog w = .ok (.agg #[.int .i64 0, .bool false]) w := Try.zeroValue81 w

theorem GM.look {w : World} {b : Nat} {f : Nat → Option (Int × Bool)} (h : GM w b f) {k : Nat} (hk : k < 64) :
    (Instr.lookup 82 (.map (some b)) (.int .i64 (k : Int)) true).run Try.prog w = .ok (.tuple #[.agg #[.int .i64 (pOf (f k)), .bool (lOf (f k))], .bool (f k).isSome]) w := by
  obtain ⟨D, h, M⟩ := h
  obtain ⟨v, ps, hrun, hv⟩ := h.look_ok law3 Try.underlying82 (zeroG w) (gEl_mk 0 false) (key3 hk)
  rw [hrun, M.has]
  obtain ⟨p, l, rfl, e⟩ := gEl_inv hv
  have e1 : D.atKey (.int .i64 (k : Int)) (gd 0 false) = gd p l := congrArg Prod.fst e
  cases hf : f k with
  | none =>
    rw [atKey_of_not_has (by rw [M.has, hf]; rfl)] at e1
    obtain ⟨rfl, rfl⟩ := gd_inj e1
    rfl
  | some q =>
    obtain ⟨q, m⟩ := q
    rw [M.at' k q m hf] at e1
    obtain ⟨rfl, rfl⟩ := gd_inj e1
    rfl

theorem GM.look0 {w : World} {b : Nat} {f : Nat → Option (Int × Bool)} (h : GM w b f) {k : Nat} (hk : k < 64) :
    (Instr.lookup 82 (.map (some b)) (.int .i64 (k : Int)) false).run Try.prog w = .ok (.agg #[.int .i64 (pOf (f k)), .bool (lOf (f k))]) w := by
  obtain ⟨D, h, M⟩ := h
  obtain ⟨v, ps, hrun, hv⟩ := h.lookup law3 Try.underlying82 (zeroG w) (gEl_mk 0 false) (key3 hk)
  rw [hrun]
  obtain ⟨p, l, rfl, e⟩ := gEl_inv hv
  have e1 : D.atKey (.int .i64 (k : Int)) (gd 0 false) = gd p l := congrArg Prod.fst e
  cases hf : f k with
  | none =>
    rw [atKey_of_not_has (by rw [M.has, hf]; rfl)] at e1
    obtain ⟨rfl, rfl⟩ := gd_inj e1
    rfl
  | some q =>
    obtain ⟨q, m⟩ := q
    rw [M.at' k q m hf] at e1
    obtain ⟨rfl, rfl⟩ := gd_inj e1
    rfl

theorem GM.store {w : World} {b : Nat} {f : Nat → Option (Int × Bool)} (h : GM w b f) {k : Nat} (hk : k < 64) (p : Int) (l : Bool) :
    ∃ w', (Instr.mapUpdate 82 (.map (some b)) (.int .i64 (k : Int)) (.agg #[.int .i64 p, .bool l])).run Try.prog w = .ok () w' ∧ GM w' b (set1 f k (some (p, l))) ∧ Fr (at' b) w w' := by
  obtain ⟨D, h, M⟩ := h
  obtain ⟨w', hrun, h', ht⟩ := h.store law3 Try.underlying82 (by simp only [maxLen]; omega) (key3 hk) (gEl_mk p l)
  have M' := mg_put M hk p l
  exact ⟨w', hrun, ⟨_, own_tight h' (by rw [M'.size]; exact cnt_le _ _), M'⟩, fr_map ht.grown⟩

theorem GM.drop {w : World} {b : Nat} {f : Nat → Option (Int × Bool)} (h : GM w b f) {k : Nat} (hk : k < 64) :
    ∃ w', (∀ ty, (Builtin.delete_ #[82, 3] ty #[.map (some b), .int .i64 (k : Int)]).run Try.prog w = .ok (.tuple #[]) w') ∧ GM w' b (set1 f k none) ∧ Fr (at' b) w w' := by
  obtain ⟨D, h, M⟩ := h
  obtain ⟨w', hrun, h', ht⟩ := h.drop law3 Try.underlying82 (key3 hk) 0
  have M' := mg_del M hk
  refine ⟨w', fun ty => ?_, ⟨_, own_tight h' (by rw [M'.size]; exact cnt_le _ _), M'⟩, fr_map ht.grown⟩
  rw [← hrun]
  rfl

/-! ### the struct -/
/-- A controller's blocks: its struct, the map of those pending, the map of those active. -/
structure Bk where
  b : Nat
  p : Nat
  a : Nat
def Bk.s (B : Bk) : Nat → Prop := fun k => k = B.b ∨ k = B.p ∨ k = B.a

/-- The struct's cells. -/
structure Sv (cs : Array Value) (B : Bk) (S : Vg) : Prop where
  size : cs.size = 71
  lrs : cs[0]? = some (.int .i64 S.lrs)
  mask : cs[1]? = some (.int .i64 S.mask)
  pe : cs[2]? = some (.map (some B.p))
  ac : cs[3]? = some (.map (some B.a))
  off : ∀ j, j < 64 → cs[4 + j]? = some (.bool (S.off j))
  inj : cs[68]? = some (.int .i64 S.inj)
  ack : cs[69]? = some (.int .i64 S.ack)
  en : cs[70]? = some (.int .i64 S.en)

structure IsVg (w : World) (B : Bk) (S : Vg) : Prop where
  row : ∃ cs, Row w B.b cs 85 ∧ Sv cs B S
  pe : GM w B.p S.pe
  ac : GM w B.a S.ac
  ne : B.b ≠ B.p ∧ B.b ≠ B.a ∧ B.p ≠ B.a
  good : Good S

section
variable {w : World} {B : Bk} {S : Vg}

theorem IsVg.keep {T : Nat → Prop} {w' : World} (h : IsVg w B S) (f : Fr T w w') (hs : ∀ k, B.s k → ¬ T k) : IsVg w' B S := by
  obtain ⟨⟨cs, hr, hc⟩, h1, h2, h3, h4⟩ := h
  exact ⟨⟨cs, hr.keep f (hs _ (Or.inl rfl)), hc⟩, h1.keep f (hs _ (Or.inr (Or.inl rfl))), h2.keep f (hs _ (Or.inr (Or.inr rfl))), h3, h4⟩
theorem IsVg.keep0 {w' : World} (h : IsVg w B S) (f : Fr none' w w') : IsVg w' B S := h.keep f (fun _ _ h => h)
theorem IsVg.alloc (h : IsVg w B S) (o : Obj) : IsVg (w.alloc o) B S := h.keep0 ((Fr.refl none' w).alloc o)
theorem IsVg.lt (h : IsVg w B S) (k : Nat) (hk : B.s k) : k < w.heap.size := by
  obtain ⟨⟨cs, hr, _⟩, h1, h2, _⟩ := h
  rcases hk with rfl | rfl | rfl
  · exact hr.lt
  · exact h1.lt
  · exact h2.lt
theorem IsVg.frozen (h : IsVg w B S) (i : Nat) : w.frozen? ⟨B.b, i, none⟩ = false := by obtain ⟨⟨cs, hr, _⟩, _⟩ := h; exact hr.frozen i
theorem IsVg.cells (h : IsVg w B S) : w.cell? ⟨B.b, 0, none⟩ = some (.int .i64 S.lrs) ∧ w.cell? ⟨B.b, 1, none⟩ = some (.int .i64 S.mask) ∧ w.cell? ⟨B.b, 2, none⟩ = some (.map (some B.p)) ∧ w.cell? ⟨B.b, 3, none⟩ = some (.map (some B.a)) := by
  obtain ⟨⟨cs, hr, hc⟩, _⟩ := h
  exact ⟨(hr.cell _).trans hc.lrs, (hr.cell _).trans hc.mask, (hr.cell _).trans hc.pe, (hr.cell _).trans hc.ac⟩
theorem IsVg.counts (h : IsVg w B S) : w.cell? ⟨B.b, 68, none⟩ = some (.int .i64 S.inj) ∧ w.cell? ⟨B.b, 69, none⟩ = some (.int .i64 S.ack) ∧ w.cell? ⟨B.b, 70, none⟩ = some (.int .i64 S.en) := by
  obtain ⟨⟨cs, hr, hc⟩, _⟩ := h
  exact ⟨(hr.cell _).trans hc.inj, (hr.cell _).trans hc.ack, (hr.cell _).trans hc.en⟩
theorem IsVg.offs (h : IsVg w B S) (j : Nat) (hj : j < 64) : w.cell? ⟨B.b, 4 + j, none⟩ = some (.bool (S.off j)) := by
  obtain ⟨⟨cs, hr, hc⟩, _⟩ := h
  exact (hr.cell _).trans (hc.off j hj)

theorem fr_b {w' : World} (i : Nat) (v : Value) (h : Fr B.s w w') : Fr B.s w (w'.setCell ⟨B.b, i, none⟩ v) := h.setCell (p := ⟨B.b, i, none⟩) (Or.inr (Or.inl rfl)) v

/-- One cell of the struct turned. -/
theorem IsVg.set (h : IsVg w B S) {i : Nat} {v : Value} {S' : Vg} (hp : S'.pe = S.pe) (ha : S'.ac = S.ac) (hg : Good S') (hc : ∀ cs, Sv cs B S → Sv (cs.setIfInBounds i v) B S') : IsVg (w.setCell ⟨B.b, i, none⟩ v) B S' := by
  obtain ⟨⟨cs, hr, hv⟩, h1, h2, h3, _⟩ := h
  have f : Fr (at' B.b) w (w.setCell ⟨B.b, i, none⟩ v) := fr_set w B.b i v (Fr.refl _ _)
  exact ⟨⟨_, hr.setCell i v, hc cs hv⟩, by rw [hp]; exact h1.keep f (fun e => h3.1 e.symm), by rw [ha]; exact h2.keep f (fun e => h3.2.1 e.symm), h3, hg⟩

theorem IsVg.setMask (h : IsVg w B S) {m : Int} (hm : 0 ≤ m ∧ m ≤ 256) : IsVg (w.setCell ⟨B.b, 1, none⟩ (.int .i64 m)) B { S with mask := m } :=
  h.set rfl rfl ⟨h.good.pe, h.good.ac, hm, h.good.lrs⟩ fun cs c => by
    refine ⟨by simpa using c.size, ?_, by simp [c.size], ?_, ?_, fun j hj => ?_, ?_, ?_, ?_⟩
    all_goals simp (disch := omega) only [Array.getElem?_setIfInBounds, if_neg]
    · exact c.lrs
    · exact c.pe
    · exact c.ac
    · exact c.off j hj
    · exact c.inj
    · exact c.ack
    · exact c.en
theorem IsVg.setInj (h : IsVg w B S) (x : Int) : IsVg (w.setCell ⟨B.b, 68, none⟩ (.int .i64 x)) B { S with inj := x } :=
  h.set rfl rfl ⟨h.good.pe, h.good.ac, h.good.mask, h.good.lrs⟩ fun cs c => by
    refine ⟨by simpa using c.size, ?_, ?_, ?_, ?_, fun j hj => ?_, by simp [c.size], ?_, ?_⟩
    all_goals simp (disch := omega) only [Array.getElem?_setIfInBounds, if_neg]
    · exact c.lrs
    · exact c.mask
    · exact c.pe
    · exact c.ac
    · exact c.off j hj
    · exact c.ack
    · exact c.en
theorem IsVg.setAck (h : IsVg w B S) (x : Int) : IsVg (w.setCell ⟨B.b, 69, none⟩ (.int .i64 x)) B { S with ack := x } :=
  h.set rfl rfl ⟨h.good.pe, h.good.ac, h.good.mask, h.good.lrs⟩ fun cs c => by
    refine ⟨by simpa using c.size, ?_, ?_, ?_, ?_, fun j hj => ?_, ?_, by simp [c.size], ?_⟩
    all_goals simp (disch := omega) only [Array.getElem?_setIfInBounds, if_neg]
    · exact c.lrs
    · exact c.mask
    · exact c.pe
    · exact c.ac
    · exact c.off j hj
    · exact c.inj
    · exact c.en
theorem IsVg.setEn (h : IsVg w B S) (x : Int) : IsVg (w.setCell ⟨B.b, 70, none⟩ (.int .i64 x)) B { S with en := x } :=
  h.set rfl rfl ⟨h.good.pe, h.good.ac, h.good.mask, h.good.lrs⟩ fun cs c => by
    refine ⟨by simpa using c.size, ?_, ?_, ?_, ?_, fun j hj => ?_, ?_, ?_, by simp [c.size]⟩
    all_goals simp (disch := omega) only [Array.getElem?_setIfInBounds, if_neg]
    · exact c.lrs
    · exact c.mask
    · exact c.pe
    · exact c.ac
    · exact c.off j hj
    · exact c.inj
    · exact c.ack
theorem IsVg.setOff (h : IsVg w B S) {k : Nat} (hk : k < 64) (x : Bool) : IsVg (w.setCell ⟨B.b, 4 + k, none⟩ (.bool x)) B { S with off := setB S.off k x } :=
  h.set rfl rfl ⟨h.good.pe, h.good.ac, h.good.mask, h.good.lrs⟩ fun cs c => by
    refine ⟨by simpa using c.size, ?_, ?_, ?_, ?_, fun j hj => ?_, ?_, ?_, ?_⟩
    rotate_left 4
    · by_cases e : j = k
      · subst e
        have : 4 + j < cs.size := by rw [c.size]; omega
        simp [this, setB_same]
      · simp (disch := omega) only [Array.getElem?_setIfInBounds, if_neg, setB_other _ _ e]
        exact c.off j hj
    all_goals simp (disch := omega) only [Array.getElem?_setIfInBounds, if_neg]
    · exact c.inj
    · exact c.ack
    · exact c.en
    · exact c.lrs
    · exact c.mask
    · exact c.pe
    · exact c.ac

/-- The map of those pending turned; the map of those active turned. -/
theorem IsVg.setPe {w' : World} (h : IsVg w B S) {f : Nat → Option (Int × Bool)} (hm : GM w' B.p f) (hf : Fr (at' B.p) w w') (hg : GoodF f) : IsVg w' B { S with pe := f } := by
  obtain ⟨⟨cs, hr, c⟩, h1, h2, h3, h4⟩ := h
  exact ⟨⟨cs, hr.keep hf h3.1, ⟨c.size, c.lrs, c.mask, c.pe, c.ac, c.off, c.inj, c.ack, c.en⟩⟩, hm, h2.keep hf (fun e => h3.2.2 e.symm), h3, ⟨hg, h4.ac, h4.mask, h4.lrs⟩⟩
theorem IsVg.setAc {w' : World} (h : IsVg w B S) {f : Nat → Option (Int × Bool)} (hm : GM w' B.a f) (hf : Fr (at' B.a) w w') (hg : GoodF f) : IsVg w' B { S with ac := f } := by
  obtain ⟨⟨cs, hr, c⟩, h1, h2, h3, h4⟩ := h
  exact ⟨⟨cs, hr.keep hf h3.2.1, ⟨c.size, c.lrs, c.mask, c.pe, c.ac, c.off, c.inj, c.ack, c.en⟩⟩, h1.keep hf h3.2.2, hm, h3, ⟨h4.pe, hg, h4.mask, h4.lrs⟩⟩
end

/-- What a call that changes a controller leaves. -/
def Chg (w : World) (B : Bk) (S : Vg) (w' : World) : Prop := Fr B.s w w' ∧ IsVg w' B S
theorem Chg.pre {w w1 w2 : World} {B : Bk} {S : Vg} (h : Chg w1 B S w2) (f : Fr none' w w1) : Chg w B S w2 := ⟨(f.mono (fun _ _ h => h.elim)).trans h.1, h.2⟩
theorem Chg.same {w w1 : World} {B : Bk} {S : Vg} (h : IsVg w B S) (f : Fr none' w w1) : Chg w B S w1 := ⟨f.mono (fun _ _ h => h.elim), h.keep0 f⟩

end Go.Proofs.Ythkieoedidpkaaa
