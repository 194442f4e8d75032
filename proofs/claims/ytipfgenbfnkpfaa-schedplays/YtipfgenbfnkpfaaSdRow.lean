/-
  A scheduler's own blocks (a struct, a map, a block a thread, a row a queue, the table's row) told as what they hold ('IsS'): laws on reading and writing them. No statement is proved here.
-/
import Derived.Test.YtipfgenbfnkpfaaSdDefs
import Derived.Test.YtipfgenbfnkpfaaRows
import Derived.WalkKit
import Derived.WalkSpells
import Derived.WalkLawsBesides
import Derived.BigQuiet
import Derived.Deep.QuietTactic
import Derived.Laws.ResultCell
import Derived.Laws.Rows
import Derived.Laws.StructEq
import Derived.Deep.RegionHeld3
import Derived.Shelf.Abstract
import Derived.Maps.OwnSet
import Derived.Laws.AppendOwnNone
namespace Go.Proofs.Ytipfgenbfnkpfaa
open Go.RowKit Go.Maps Go.WideMaps

theorem fr_of_grown' {w w' : World} {row : Option Nat} (h : w.grownBy w' row) : Fr (fun k => some k = row) w w' :=
  ⟨h.os, h.tape, h.output, h.size, fun k hk hn => h.block k hk hn⟩
theorem fr_map {w w' : World} {b : Nat} (h : w.grownBy w' (some b)) : Fr (at' b) w w' := (fr_of_grown' h).mono (fun k _ e => (Option.some.inj e : k = b))
theorem row_alloc1 (w : World) (o : Obj) (cs : Array Value) (t : TypeId) : Row ((w.alloc o).alloc (.cells cs t)) (w.heap.size + 1) cs t := by
  have := row_alloc (w.alloc o) cs t
  simpa using this

/-! ### the map of regions -/
abbrev pv (g : Nat) : Value := .pointer (some ⟨g, 0, none⟩)
def gd (g : Nat) : DataW Unit := .agg [.lit (.int .i64 g)]
def gd0 : DataW Unit := .agg []
def gEl (v : Value) : Option (DataW Unit × List MemPlace) := match v with
  | .pointer (some ⟨g, 0, none⟩) => some (gd g, [])
  | .pointer none => some (gd0, [])
  | _ => none
theorem gEl_mk (g : Nat) : gEl (pv g) = some (gd g, []) := rfl
theorem gEl_inv {v : Value} {y : DataW Unit × List MemPlace} (h : gEl v = some y) : (∃ g : Nat, v = pv g ∧ y = (gd g, [])) ∨ (v = .pointer none ∧ y = (gd0, [])) := by
  unfold gEl at h
  split at h
  · rename_i g
    cases h
    exact Or.inl ⟨g, rfl, rfl⟩
  · cases h
    exact Or.inr ⟨rfl, rfl⟩
  · cases h
theorem gd_inj {l m : Nat} (h : gd l = gd m) : l = m := by
  simp only [gd, DataW.agg.injEq, List.cons.injEq, DataW.lit.injEq, Lit.int.injEq, true_and, and_true] at h
  omega
theorem gd_ne {l : Nat} : gd l ≠ gd0 := by simp [gd, gd0]

/-- A map's datum says this of its keys. -/
structure Mg (D : DataW Unit) (n : Nat) (f : Int → Option Nat) : Prop where
  tidy : Tidy D
  has : ∀ k : Int, Maps.has D (.int .i64 k) = (f k).isSome
  at' : ∀ k g, f k = some g → ∀ z, D.atKey (.int .i64 k) z = gd g
  key : ∀ kl, Maps.has D kl = true → ∃ k : Int, kl = .int .i64 k
  size : Maps.size D = n

theorem mg_nil : Mg (.map []) 0 (fun _ => none) where
  tidy := tidy_empty
  has _ := rfl
  at' _ _ h := by cases h
  key _ h := by cases h
  size := rfl

theorem lit_ne {a b : Int} (h : a ≠ b) : (Lit.int .i64 a) ≠ .int .i64 b := by simpa using h

theorem mg_put {D : DataW Unit} {n : Nat} {f f' : Int → Option Nat} (h : Mg D n f) {k : Int} (hk : f k = none) (g : Nat) (hf : ∀ j, f' j = if k = j then some g else f j) : Mg (D.put (.int .i64 k) (gd g)) (n + 1) f' := by
  have hkl : WideAt.IsKeyLit (.int .i64 k) := trivial
  refine ⟨h.tidy.put hkl _, fun j => ?_, fun j q hj z => ?_, fun kl hh => ?_, ?_⟩
  · rw [hf]
    by_cases e : k = j
    · subst e; rw [if_pos rfl, has_put_same h.tidy.isMap hkl]; rfl
    · rw [if_neg e, has_put_other (lit_ne (fun e' => e e'.symm))]; exact h.has j
  · rw [hf] at hj
    by_cases e : k = j
    · subst e; rw [if_pos rfl] at hj; cases hj; exact atKey_put_same h.tidy.isMap hkl _ _
    · rw [if_neg e] at hj; rw [atKey_put_other (lit_ne (fun e' => e e'.symm))]; exact h.at' j q hj z
  · by_cases e : kl = .int .i64 k
    · exact ⟨k, e⟩
    · rw [has_put_other e] at hh; exact h.key kl hh
  · rw [size_put h.tidy, h.size, h.has, hk]; rfl

theorem mg_del {D : DataW Unit} {n : Nat} {f f' : Int → Option Nat} (h : Mg D (n + 1) f) {k : Int} {y : Nat} (hk : f k = some y) (hf : ∀ j, f' j = if j = k then none else f j) : Mg (D.del (.int .i64 k)) n f' := by
  refine ⟨h.tidy.del _, fun j => ?_, fun j q hj z => ?_, fun kl hh => ?_, ?_⟩
  · rw [hf]
    by_cases e : j = k
    · subst e; rw [if_pos rfl, has_del_same]; rfl
    · rw [if_neg e, has_del_other (lit_ne e)]; exact h.has j
  · rw [hf] at hj
    by_cases e : j = k
    · rw [if_pos e] at hj; cases hj
    · rw [if_neg e] at hj; rw [atKey_del_other (lit_ne e)]; exact h.at' j q hj z
  · by_cases e : kl = .int .i64 k
    · exact ⟨k, e⟩
    · rw [has_del_other e] at hh; exact h.key kl hh
  · have h1 := size_del (k := .int .i64 k) h.tidy
    rw [h.size, h.has, hk] at h1
    simp at h1
    omega

/-- Block b is a map that says this. -/
def MP (w : World) (b n : Nat) (f : Int → Option Nat) : Prop := ∃ D, w.ownsMap Try.prog 3 gEl b n D ∧ Mg D n f

theorem own_tight {w : World} {b n m : Nat} {D : DataW Unit} (h : w.ownsMap Try.prog 3 gEl b n D) (hm : Maps.size D ≤ m) : w.ownsMap Try.prog 3 gEl b m D := by
  obtain ⟨es, clock, hb, F, _, rfl⟩ := h
  refine ⟨es, clock, hb, F, ?_, rfl⟩
  simpa [Maps.size, length_sorted] using hm

theorem mp_made (w : World) : MP (w.alloc (.map #[] 0)) w.heap.size 0 (fun _ => none) := ⟨_, World.ownsMap_made w _ _ _, mg_nil⟩

theorem law3 : Keyed Try.prog 3 := int_keyed Try.underlying3
theorem key3 {k : Int} (hk : I64 k) : keyOf Try.prog 3 (.int .i64 k) = some (.int .i64 k) := keyOf_int_mk Try.underlying3 (by
  obtain ⟨hk1, hk2⟩ := hk
  have h1 : IntKind.i64.min = -9223372036854775808 := rfl
  have h2 : IntKind.i64.max = 9223372036854775807 := rfl
  simp only [Lit.wf, h1, h2, Bool.and_eq_true, decide_eq_true_eq]
  omega)
theorem zeroP (w : World) : (zeroValue 55).run Try.prog w = .ok (.pointer none) w := Try.zeroValue55 w

section
variable {w : World} {b n : Nat} {f : Int → Option Nat}
theorem MP.lt (h : MP w b n f) : b < w.heap.size := by obtain ⟨D, h, _⟩ := h; exact h.lt
theorem MP.keep {S : Nat → Prop} {w' : World} (h : MP w b n f) (k : Fr S w w') (hs : ¬ S b) : MP w' b n f := by
  have hl := h.lt
  obtain ⟨D, ⟨es, clock, hb, F, hn, hD⟩, hM⟩ := h
  exact ⟨D, ⟨es, clock, (k.block b hl hs).trans hb, F, hn, hD⟩, hM⟩
theorem MP.congr {f' : Int → Option Nat} (h : MP w b n f) (e : ∀ k, f k = f' k) : MP w b n f' := by
  rw [← funext e]; exact h
/-- It is no block of cells. -/
theorem MP.ne {c : Nat} {cs : Array Value} {t : TypeId} (h : MP w b n f) (r : Row w c cs t) : b ≠ c := by
  rintro rfl
  obtain ⟨D, ⟨es, clock, hb, _⟩, _⟩ := h
  have r' : w.heap[b]? = some (.cells cs t (0, 0)) := r
  rw [hb] at r'
  cases r'

theorem MP.look_none (h : MP w b n f) {k : Int} (hk : I64 k) (hf : f k = none) :
    (Instr.lookup 52 (.map (some b)) (.int .i64 k) true).run Try.prog w = .ok (.tuple #[.pointer none, .bool false]) w := by
  obtain ⟨D, h, M⟩ := h
  obtain ⟨v, ps, hrun, hv⟩ := h.look_ok law3 Try.underlying52 (zeroP w) (show gEl (.pointer none) = some (gd0, []) from rfl) (key3 hk)
  rw [hrun, M.has, hf]
  rw [atKey_of_not_has (by rw [M.has, hf]; rfl)] at hv
  rcases gEl_inv hv with ⟨g, rfl, e⟩ | ⟨rfl, e⟩
  · exact absurd (congrArg Prod.fst e).symm gd_ne
  · rfl
theorem MP.look_some (h : MP w b n f) {k : Int} (hk : I64 k) {g : Nat} (hf : f k = some g) :
    (Instr.lookup 52 (.map (some b)) (.int .i64 k) true).run Try.prog w = .ok (.tuple #[pv g, .bool true]) w := by
  obtain ⟨D, h, M⟩ := h
  obtain ⟨v, ps, hrun, hv⟩ := h.look_ok law3 Try.underlying52 (zeroP w) (show gEl (.pointer none) = some (gd0, []) from rfl) (key3 hk)
  rw [hrun, M.has, hf]
  rw [M.at' k g hf] at hv
  rcases gEl_inv hv with ⟨g', rfl, e⟩ | ⟨rfl, e⟩
  · obtain rfl := gd_inj (congrArg Prod.fst e)
    rfl
  · exact absurd (congrArg Prod.fst e) gd_ne
theorem MP.look0_some (h : MP w b n f) {k : Int} (hk : I64 k) {g : Nat} (hf : f k = some g) :
    (Instr.lookup 52 (.map (some b)) (.int .i64 k) false).run Try.prog w = .ok (pv g) w := by
  obtain ⟨D, h, M⟩ := h
  obtain ⟨v, ps, hrun, hv⟩ := h.lookup law3 Try.underlying52 (zeroP w) (show gEl (.pointer none) = some (gd0, []) from rfl) (key3 hk)
  rw [hrun]
  rw [M.at' k g hf] at hv
  rcases gEl_inv hv with ⟨g', rfl, e⟩ | ⟨rfl, e⟩
  · obtain rfl := gd_inj (congrArg Prod.fst e)
    rfl
  · exact absurd (congrArg Prod.fst e) gd_ne
theorem MP.store (h : MP w b n f) (hn : n ≤ 1024) {k : Int} (hk : I64 k) (hf : f k = none) (g : Nat) {f' : Int → Option Nat} (hf' : ∀ j, f' j = if k = j then some g else f j) :
    ∃ w', (Instr.mapUpdate 52 (.map (some b)) (.int .i64 k) (pv g)).run Try.prog w = .ok () w' ∧ MP w' b (n + 1) f' ∧ Fr (at' b) w w' := by
  obtain ⟨D, h, M⟩ := h
  obtain ⟨w', hrun, h', ht⟩ := h.store law3 Try.underlying52 (by simp only [maxLen]; omega) (key3 hk) (gEl_mk g)
  have M' := mg_put M hf g hf'
  exact ⟨w', hrun, ⟨_, own_tight h' (by rw [M'.size]; omega), M'⟩, fr_map ht.grown⟩
theorem MP.drop (h : MP w b (n + 1) f) {k : Int} (hk : I64 k) {y : Nat} (hf : f k = some y) {f' : Int → Option Nat} (hf' : ∀ j, f' j = if j = k then none else f j) :
    ∃ w', (∀ ty, (Builtin.delete_ #[52, 3] ty #[.map (some b), .int .i64 k]).run Try.prog w = .ok (.tuple #[]) w') ∧ MP w' b n f' ∧ Fr (at' b) w w' := by
  obtain ⟨D, h, M⟩ := h
  obtain ⟨w', hrun, h', ht⟩ := h.drop law3 Try.underlying52 (key3 hk) 0
  have M' := mg_del M hf hf'
  refine ⟨w', fun ty => ?_, ⟨_, own_tight h' (by rw [M'.size]; omega), M'⟩, fr_map ht.grown⟩
  rw [← hrun]
  rfl
end

/-! ### threads in blocks -/
abbrev tkA (x : Tk) : Array Value := #[.int .i64 x.i, .int .i64 x.p, .int .i64 x.d, .int .i64 x.s, .bool x.a]
abbrev tkV (x : Tk) : Value := .agg (tkA x)
def TkR (w : World) (b : Nat) (x : Tk) : Prop := Row w b (tkA x) 40

section
variable {w : World} {b : Nat} {x : Tk}
theorem TkR.lt (h : TkR w b x) : b < w.heap.size := Row.lt h
theorem TkR.keep {S : Nat → Prop} {w' : World} (h : TkR w b x) (f : Fr S w w') (hs : ¬ S b) : TkR w' b x := Row.keep h f hs
theorem TkR.cells (h : TkR w b x) : w.cell? ⟨b, 0, none⟩ = some (.int .i64 x.i) ∧ w.cell? ⟨b, 1, none⟩ = some (.int .i64 x.p) ∧ w.cell? ⟨b, 2, none⟩ = some (.int .i64 x.d) ∧ w.cell? ⟨b, 3, none⟩ = some (.int .i64 x.s) ∧ w.cell? ⟨b, 4, none⟩ = some (.bool x.a) :=
  ⟨Row.cell h 0, Row.cell h 1, Row.cell h 2, Row.cell h 3, Row.cell h 4⟩
theorem TkR.frozen (h : TkR w b x) (i : Nat) : w.frozen? ⟨b, i, none⟩ = false := Row.frozen h i
theorem TkR.setA (h : TkR w b x) (a : Bool) : TkR (w.setCell ⟨b, 4, none⟩ (.bool a)) b (setA a x) := Row.setCell h 4 (.bool a)
theorem TkR.setS (h : TkR w b x) (s : Int) : TkR (w.setCell ⟨b, 3, none⟩ (.int .i64 s)) b (setSl s x) := Row.setCell h 3 (.int .i64 s)
theorem TkR.setPD (h : TkR w b x) (p d : Int) : TkR ((w.setCell ⟨b, 1, none⟩ (.int .i64 p)).setCell ⟨b, 2, none⟩ (.int .i64 d)) b (setPD p d x) := Row.setCell (Row.setCell h 1 (.int .i64 p)) 2 (.int .i64 d)
end

/-! ### the table's row -/
def encN (x : Tn) : List Value := [.int .i64 x.d, .int .i64 x.n]
def flatN (L : List Tn) : List Value := L.flatMap encN
theorem flatN_cons (x : Tn) (L : List Tn) : flatN (x :: L) = encN x ++ flatN L := by simp [flatN]
theorem flatN_len (L : List Tn) : (flatN L).length = L.length * 2 := by
  induction L with
  | nil => rfl
  | cons x L ih => rw [flatN_cons, List.length_append, ih]; simp [encN]; omega
theorem flatN_at : ∀ (L : List Tn) (i : Nat) (x : Tn), L[i]? = some x → ∀ r, r < 2 → (flatN L)[i * 2 + r]? = (encN x)[r]?
  | [], i, x, h, r, hr => by simp at h
  | y :: L, 0, x, h, r, hr => by
    simp at h; subst h
    rw [flatN_cons, Nat.zero_mul, Nat.zero_add, List.getElem?_append_left (by simp [encN]; omega)]
  | y :: L, i + 1, x, h, r, hr => by
    rw [flatN_cons, List.getElem?_append_right (by simp [encN]; omega)]
    have := flatN_at L i x (by simpa using h) r hr
    rw [← this]
    congr 1
    simp [encN]; omega
def vI (l : List Int) : List Value := l.map (Value.int .i64)

/-! ### a scheduler -/
/-- Its blocks: the struct, the map, each thread's; the queues' slices; the table's. -/
structure Pb where
  b : Nat
  m : Nat
  B : Int → Nat
  V : Nat → Value
  T : Value
def Pb.s (p : Pb) (S : Sd) : Nat → Prop := fun k => k = p.b ∨ k = p.m ∨ (∃ n ∈ S.L, k = p.B n.i) ∨ (∃ j, j < 256 ∧ some k = (p.V j).ownBlock) ∨ some k = p.T.ownBlock
def mapF (p : Pb) (L : List Tk) : Int → Option Nat := fun k => (fnd L k).map fun n => p.B n.i
def curV (p : Pb) (c : Int) : Value := if c = -1 then .pointer none else pv (p.B c)

structure SRow (w : World) (p : Pb) (S : Sd) (cs : Array Value) : Prop where
  row : Row w p.b cs 57
  size : cs.size = 261
  c0 : cs[0]? = some (.map (some p.m))
  cq : ∀ j, j < 256 → cs[1 + j]? = some (p.V j)
  cc : cs[257]? = some (curV p S.c)
  ct : cs[258]? = some p.T
  cn : cs[259]? = some (.int .i64 S.tn)
  cl : cs[260]? = some (.int .i64 S.lf)

structure IsS (w : World) (p : Pb) (S : Sd) : Prop where
  row : ∃ cs, SRow w p S cs
  map : MP w p.m S.L.length (mapF p S.L)
  tk : ∀ n ∈ S.L, TkR w (p.B n.i) n
  inj : ∀ n ∈ S.L, ∀ n' ∈ S.L, p.B n.i = p.B n'.i → n.i = n'.i
  qu : ∀ j, j < 256 → w.ownsRow 0 3 1 (p.V j) (S.q j).length (vI (S.q j))
  apt : ∀ j j', j < 256 → j' < 256 → j ≠ j' → ∀ k, some k = (p.V j).ownBlock → some k ≠ (p.V j').ownBlock
  tbl : w.ownsRow 0 33 2 p.T S.tb.length (flatN S.tb)
  good : GoodL S.L

theorem row_ne {w : World} {a b : Nat} {cs cs' : Array Value} {t t' : TypeId} (h : Row w a cs t) (h' : Row w b cs' t') (ht : t ≠ t') : a ≠ b := by
  rintro rfl
  have e : some (Obj.cells cs t (0, 0)) = some (.cells cs' t' (0, 0)) := h.symm.trans h'
  simp at e
  exact ht e.2

theorem ownsRow_at {w w' : World} {B n k : Nat} {e : TypeId} {v : Value} {xs : List Value} (h : w.ownsRow B e k v n xs) (hk : ∀ q, some q = v.ownBlock → q < w.heap.size → w'.heap[q]? = w.heap[q]?) : w'.ownsRow B e k v n xs := by
  obtain ⟨hl, h | ⟨g, cap, cur, hv, hb, hg, hc, hm, hs, ht⟩⟩ := h
  · exact ⟨hl, Or.inl h⟩
  · exact ⟨hl, Or.inr ⟨g, cap, cur, hv, hb, (hk g (by rw [hv]; rfl) (Row.lt (show Row w g cur e from hg))).trans hg, hc, hm, hs, ht⟩⟩

theorem ownsRow_lt {w : World} {B n k : Nat} {e : TypeId} {v : Value} {xs : List Value} (h : w.ownsRow B e k v n xs) (q : Nat) (hq : some q = v.ownBlock) : q < w.heap.size := by
  obtain ⟨hl, h | ⟨g, cap, cur, hv, hb, hg, hc, hm, hs, ht⟩⟩ := h
  · rw [h.1] at hq; simp [Value.ownBlock] at hq
  · rw [hv] at hq
    obtain rfl : q = g := by simpa [Value.ownBlock] using hq
    exact Row.lt (show Row w q cur e from hg)

theorem ownsRow_high {w : World} {B n k : Nat} {e : TypeId} {v : Value} {xs : List Value} (h : w.ownsRow B e k v n xs) (q : Nat) (hq : some q = v.ownBlock) : B ≤ q := by
  obtain ⟨hl, h | ⟨g, cap, cur, hv, hb, hg, hc, hm, hs, ht⟩⟩ := h
  · rw [h.1] at hq; simp [Value.ownBlock] at hq
  · rw [hv] at hq
    obtain rfl : q = g := by simpa [Value.ownBlock] using hq
    exact hb

theorem ownsRow_zero {w : World} {B n k : Nat} {e : TypeId} {v : Value} {xs : List Value} (h : w.ownsRow B e k v n xs) : w.ownsRow 0 e k v n xs := by
  obtain ⟨hl, h | ⟨g, cap, cur, hv, hb, r⟩⟩ := h
  · exact ⟨hl, Or.inl h⟩
  · exact ⟨hl, Or.inr ⟨g, cap, cur, hv, by omega, r⟩⟩


theorem own_row {w : World} {e : TypeId} {k n B : Nat} {v : Value} {xs : List Value} (h : w.ownsRow B e k v n xs) {g : Nat} (hg : some g = v.ownBlock) : ∃ cur, Row w g cur e := by
  obtain ⟨_, h | ⟨g', cap, cur, hv, _, hr, _⟩⟩ := h
  · rw [h.1] at hg; simp [Value.ownBlock] at hg
  · rw [hv] at hg
    obtain rfl : g = g' := by simpa [Value.ownBlock] using hg
    exact ⟨cur, hr⟩

section
variable {w : World} {p : Pb} {S : Sd}
theorem IsS.cells (h : IsS w p S) : w.cell? ⟨p.b, 0, none⟩ = some (.map (some p.m)) ∧ w.cell? ⟨p.b, 257, none⟩ = some (curV p S.c) ∧ w.cell? ⟨p.b, 258, none⟩ = some p.T ∧ w.cell? ⟨p.b, 259, none⟩ = some (.int .i64 S.tn) ∧ w.cell? ⟨p.b, 260, none⟩ = some (.int .i64 S.lf) := by
  obtain ⟨cs, h⟩ := h.row
  exact ⟨(h.row.cell _).trans h.c0, (h.row.cell _).trans h.cc, (h.row.cell _).trans h.ct, (h.row.cell _).trans h.cn, (h.row.cell _).trans h.cl⟩
theorem IsS.cellq (h : IsS w p S) (j : Nat) (hj : j < 256) : w.cell? ⟨p.b, 1 + j, none⟩ = some (p.V j) := by
  obtain ⟨cs, h⟩ := h.row
  exact (h.row.cell _).trans (h.cq j hj)
theorem IsS.frozen (h : IsS w p S) (i : Nat) : w.frozen? ⟨p.b, i, none⟩ = false := by
  obtain ⟨cs, h⟩ := h.row
  exact h.row.frozen i
theorem IsS.lt (h : IsS w p S) (k : Nat) (hk : p.s S k) : k < w.heap.size := by
  rcases hk with rfl | rfl | ⟨n, hn, rfl⟩ | ⟨j, hj, e⟩ | e
  · obtain ⟨cs, h⟩ := h.row
    exact h.row.lt
  · exact h.map.lt
  · exact (h.tk n hn).lt
  · obtain ⟨cur, r⟩ := own_row (h.qu j hj) e
    exact r.lt
  · obtain ⟨cur, r⟩ := own_row h.tbl e
    exact r.lt
theorem IsS.keep {T : Nat → Prop} {w' : World} (h : IsS w p S) (f : Fr T w w') (hs : ∀ k, p.s S k → ¬ T k) : IsS w' p S := by
  obtain ⟨cs, hr⟩ := h.row
  refine ⟨⟨cs, hr.row.keep f (hs _ (Or.inl rfl)), hr.size, hr.c0, hr.cq, hr.cc, hr.ct, hr.cn, hr.cl⟩, h.map.keep f (hs _ (Or.inr (Or.inl rfl))), fun n hn => (h.tk n hn).keep f (hs _ (Or.inr (Or.inr (Or.inl ⟨n, hn, rfl⟩)))), h.inj, fun j hj => ?_, h.apt, ?_, h.good⟩
  · exact ownsRow_at (h.qu j hj) fun q hq hl => f.block q hl (hs _ (Or.inr (Or.inr (Or.inr (Or.inl ⟨j, hj, hq⟩)))))
  · exact ownsRow_at h.tbl fun q hq hl => f.block q hl (hs _ (Or.inr (Or.inr (Or.inr (Or.inr hq)))))
theorem IsS.keep0 {w' : World} (h : IsS w p S) (f : Fr none' w w') : IsS w' p S := h.keep f (fun _ _ h => h)
/-- The blocks lie apart. -/
theorem IsS.bm (h : IsS w p S) : p.b ≠ p.m := by
  obtain ⟨cs, hr⟩ := h.row
  exact fun e => h.map.ne hr.row e.symm
theorem IsS.bB (h : IsS w p S) {n : Tk} (hn : n ∈ S.L) : p.B n.i ≠ p.b ∧ p.B n.i ≠ p.m := by
  obtain ⟨cs, hr⟩ := h.row
  exact ⟨row_ne (h.tk n hn) hr.row (by decide), fun e => h.map.ne (h.tk n hn) e.symm⟩
theorem IsS.bV (h : IsS w p S) {j k : Nat} (hj : j < 256) (hk : some k = (p.V j).ownBlock) : k ≠ p.b ∧ k ≠ p.m ∧ (∀ n ∈ S.L, k ≠ p.B n.i) ∧ some k ≠ p.T.ownBlock := by
  obtain ⟨cs, hr⟩ := h.row
  obtain ⟨cur, r⟩ := own_row (h.qu j hj) hk
  refine ⟨row_ne r hr.row (by decide), fun e => h.map.ne r e.symm, fun n hn => row_ne r (h.tk n hn) (by decide), fun e => ?_⟩
  obtain ⟨cur', r'⟩ := own_row h.tbl e
  exact row_ne r r' (by decide) rfl
theorem IsS.bT (h : IsS w p S) {k : Nat} (hk : some k = p.T.ownBlock) : k ≠ p.b ∧ k ≠ p.m ∧ (∀ n ∈ S.L, k ≠ p.B n.i) := by
  obtain ⟨cs, hr⟩ := h.row
  obtain ⟨cur, r⟩ := own_row h.tbl hk
  exact ⟨row_ne r hr.row (by decide), fun e => h.map.ne r e.symm, fun n hn => row_ne r (h.tk n hn) (by decide)⟩

/-- What a call leaves. -/
structure Chg (w : World) (p : Pb) (S : Sd) (w' : World) (p' : Pb) (S' : Sd) : Prop where
  is : IsS w' p' S'
  fr : Fr (p.s S) w w'
  new : ∀ k, p'.s S' k → p.s S k ∨ w.heap.size ≤ k

theorem Chg.same {w' : World} (h : IsS w p S) (f : Fr none' w w') : Chg w p S w' p S := ⟨h.keep0 f, f.mono (fun _ _ h => h.elim), fun _ h => Or.inl h⟩
theorem Chg.trans {w1 w2 : World} {p1 p2 : Pb} {S1 S2 : Sd} (h : Chg w p S w1 p1 S1) (k : Chg w1 p1 S1 w2 p2 S2) : Chg w p S w2 p2 S2 := by
  refine ⟨k.is, ⟨k.fr.os.trans h.fr.os, k.fr.tape.trans h.fr.tape, k.fr.output.trans h.fr.output, Nat.le_trans h.fr.size k.fr.size, fun i hi hn => ?_⟩, fun i hi => ?_⟩
  · refine (k.fr.block i (Nat.lt_of_lt_of_le hi h.fr.size) (fun e => ?_)).trans (h.fr.block i hi hn)
    rcases h.new i e with h1 | h1
    · exact hn h1
    · omega
  · rcases k.new i hi with h1 | h1
    · exact h.new i h1
    · have := h.fr.size
      exact Or.inr (by omega)
theorem Chg.before {w0 : World} {w' : World} {p' : Pb} {S' : Sd} (f : Fr none' w0 w) (h0 : IsS w0 p S) (h : Chg w p S w' p' S') : Chg w0 p S w' p' S' := (Chg.same h0 f).trans h
theorem Chg.after {w1 w' : World} {p' : Pb} {S' : Sd} (h : Chg w p S w1 p' S') (f : Fr none' w1 w') : Chg w p S w' p' S' := h.trans (Chg.same h.is f)

/-- One cell of the struct turned that is none of the queues'. -/
theorem srow_set {cs : Array Value} {S' : Sd} {i : Nat} {v : Value} (h : SRow w p S cs) (hi : 257 ≤ i ∧ i ≤ 260) (hc : (if i = 257 then some v else some (curV p S.c)) = some (curV p S'.c)) (ht : i ≠ 258) (hn : (if i = 259 then some v else some (.int .i64 S.tn)) = some (.int .i64 S'.tn)) (hl : (if i = 260 then some v else some (.int .i64 S.lf)) = some (.int .i64 S'.lf)) :
    SRow (w.setCell ⟨p.b, i, none⟩ v) p S' (cs.setIfInBounds i v) := by
  have hs := h.size
  refine ⟨h.row.setCell i v, by simpa using hs, ?_, fun j hj => ?_, ?_, ?_, ?_, ?_⟩
  · rw [Array.getElem?_setIfInBounds_ne (by omega)]; exact h.c0
  · rw [Array.getElem?_setIfInBounds_ne (by omega)]; exact h.cq j hj
  · rw [← hc]
    split
    · rename_i e; subst e; rw [Array.getElem?_setIfInBounds_self_of_lt (by omega)]
    · rw [Array.getElem?_setIfInBounds_ne (by omega)]; exact h.cc
  · rw [Array.getElem?_setIfInBounds_ne (by omega)]; exact h.ct
  · rw [← hn]
    split
    · rename_i e; subst e; rw [Array.getElem?_setIfInBounds_self_of_lt (by omega)]
    · rw [Array.getElem?_setIfInBounds_ne (by omega)]; exact h.cn
  · rw [← hl]
    split
    · rename_i e; subst e; rw [Array.getElem?_setIfInBounds_self_of_lt (by omega)]
    · rw [Array.getElem?_setIfInBounds_ne (by omega)]; exact h.cl

theorem IsS.turn (h : IsS w p S) {S' : Sd} {i : Nat} {v : Value} (hL : S'.L = S.L) (hq : S'.q = S.q) (hb : S'.tb = S.tb) (hr : ∀ cs, SRow w p S cs → SRow (w.setCell ⟨p.b, i, none⟩ v) p S' (cs.setIfInBounds i v)) : Chg w p S (w.setCell ⟨p.b, i, none⟩ v) p S' := by
  have f : Fr (at' p.b) w (w.setCell ⟨p.b, i, none⟩ v) := fr_set _ _ _ _ (Fr.refl _ _)
  obtain ⟨cs, h0⟩ := h.row
  refine ⟨⟨⟨_, hr cs h0⟩, ?_, ?_, ?_, fun j hj => ?_, h.apt, ?_, ?_⟩, f.mono (fun k _ e => Or.inl e), fun k hk => ?_⟩
  · rw [hL]; exact h.map.keep f (fun e => h.bm (Eq.symm e))
  · rw [hL]; exact fun n hn => (h.tk n hn).keep f (fun e => (h.bB hn).1 e)
  · rw [hL]; exact h.inj
  · rw [hq]; exact ownsRow_at (h.qu j hj) fun q hq hl => f.block q hl (fun e => (h.bV hj hq).1 e)
  · rw [hb]; exact ownsRow_at h.tbl fun q hq hl => f.block q hl (fun e => (h.bT hq).1 e)
  · rw [hL]; exact h.good
  · left
    unfold Pb.s at hk ⊢
    rw [hL] at hk
    exact hk
theorem IsS.setCur (h : IsS w p S) (c : Int) : Chg w p S (w.setCell ⟨p.b, 257, none⟩ (curV p c)) p { S with c := c } :=
  h.turn rfl rfl rfl fun cs h0 => srow_set h0 (by omega) rfl (by omega) rfl rfl
theorem IsS.setTurn (h : IsS w p S) (n : Nat) : Chg w p S (w.setCell ⟨p.b, 259, none⟩ (.int .i64 n)) p { S with tn := n } :=
  h.turn rfl rfl rfl fun cs h0 => srow_set h0 (by omega) rfl (by omega) rfl rfl
theorem IsS.setLeft (h : IsS w p S) (n : Int) : Chg w p S (w.setCell ⟨p.b, 260, none⟩ (.int .i64 n)) p { S with lf := n } :=
  h.turn rfl rfl rfl fun cs h0 => srow_set h0 (by omega) rfl (by omega) rfl rfl

/-- One thread's block turned. -/
theorem IsS.setTk (h : IsS w p S) {k : Int} {t : Tk} (hf : fnd S.L k = some t) {f : Tk → Tk} (hi : ∀ t, (f t).i = t.i) (ho : okT (f t)) {w' : World} (fr : Fr (at' (p.B t.i)) w w') (hr : TkR w' (p.B t.i) (f t)) : Chg w p S w' p { S with L := upd S.L k f } := by
  obtain ⟨hm, hk⟩ := fnd_mem hf
  have hn := h.bB hm
  obtain ⟨cs, h0⟩ := h.row
  have hu : ∀ x ∈ S.L, x.i = k → x = t := fun x hx e => by
    have := fnd_of_mem h.good.one hx
    rw [e, hf] at this
    exact (Option.some.inj this).symm
  refine ⟨⟨⟨cs, h0.row.keep fr (fun e => hn.1 (Eq.symm e)), h0.size, h0.c0, h0.cq, h0.cc, h0.ct, h0.cn, h0.cl⟩, ?_, fun x hx => ?_, fun x hx x' hx' e => ?_, fun j hj => ?_, h.apt, ?_, good_upd h.good hi fun x hx e => by rw [hu x hx e]; exact ho⟩, fr.mono (fun j _ e => Or.inr (Or.inr (Or.inl ⟨t, hm, e⟩))), fun j hj => ?_⟩
  · have q := h.map.keep fr (fun e => hn.2 (Eq.symm e))
    show MP w' p.m (upd S.L k f).length _
    rw [upd_len]
    refine q.congr fun j => ?_
    unfold mapF
    show _ = (fnd (upd S.L k f) j).map _
    rw [fnd_upd hi]
    cases fnd S.L j with
    | none => rfl
    | some x =>
      simp only [Option.map_some, Option.some.injEq]
      split
      · rw [hi]
      · rfl
  · obtain ⟨y, hy, rfl⟩ := mem_upd hx
    by_cases e : y.i = k
    · rw [if_pos e, hi]
      rw [hu y hy e]
      exact hr
    · rw [if_neg e]
      exact (h.tk y hy).keep fr (fun e' => e (by rw [h.inj y hy t hm e', hk]))
  · obtain ⟨y, hy, rfl⟩ := mem_upd hx
    obtain ⟨z, hz, rfl⟩ := mem_upd hx'
    have ei : ∀ y : Tk, (if y.i = k then f y else y).i = y.i := fun y => by split; exact hi y; rfl
    rw [ei, ei] at e ⊢
    exact h.inj y hy z hz e
  · exact ownsRow_at (h.qu j hj) fun q hq hl => fr.block q hl (fun e => (h.bV hj hq).2.2.1 t hm e)
  · exact ownsRow_at h.tbl fun q hq hl => fr.block q hl (fun e => (h.bT hq).2.2 t hm e)
  · left
    rcases hj with h1 | h1 | ⟨x, hx, h1⟩ | h1 | h1
    · exact Or.inl h1
    · exact Or.inr (Or.inl h1)
    · obtain ⟨y, hy, rfl⟩ := mem_upd hx
      have ei : (if y.i = k then f y else y).i = y.i := by split; exact hi y; rfl
      rw [ei] at h1
      exact Or.inr (Or.inr (Or.inl ⟨y, hy, h1⟩))
    · exact Or.inr (Or.inr (Or.inr (Or.inl h1)))
    · exact Or.inr (Or.inr (Or.inr (Or.inr h1)))

def uV (V : Nat → Value) (k : Nat) (v : Value) : Nat → Value := fun j => if j = k then v else V j
/-- One queue turned: its row, then its cell. -/
theorem IsS.setQ (h : IsS w p S) {j : Nat} (hj : j < 256) {w1 : World} {v : Value} {f : List Int → List Int} (fr : Fr (fun k => some k = (p.V j).ownBlock) w w1) (ho : w1.ownsRow 0 3 1 v (f (S.q j)).length (vI (f (S.q j)))) (hv : ∀ k, some k = v.ownBlock → some k = (p.V j).ownBlock ∨ w.heap.size ≤ k) :
    Chg w p S (w1.setCell ⟨p.b, 1 + j, none⟩ v) { p with V := uV p.V j v } { S with q := uq S.q j f } := by
  obtain ⟨cs, h0⟩ := h.row
  have nb : ∀ k, some k = (p.V j).ownBlock → k ≠ p.b := fun k hk => (h.bV hj hk).1
  have r1 := h0.row.keep fr (fun e => nb _ e rfl)
  have f2 : Fr (at' p.b) w1 (w1.setCell ⟨p.b, 1 + j, none⟩ v) := fr_set _ _ _ _ (Fr.refl _ _)
  have hs := h0.size
  have f3 : Fr (fun k => some k = (p.V j).ownBlock ∨ k = p.b) w (w1.setCell ⟨p.b, 1 + j, none⟩ v) := Fr.setCell (S := fun k => some k = (p.V j).ownBlock ∨ k = p.b) (fr.mono (fun k _ e => Or.inl e)) (p := ⟨p.b, 1 + j, none⟩) (Or.inr (Or.inr rfl)) v
  have hb : p.b < w.heap.size := h0.row.lt
  have hvb : ∀ k, some k = v.ownBlock → k ≠ p.b := fun k hk e => by
    rcases hv k hk with h1 | h1
    · exact nb k h1 e
    · omega
  refine ⟨⟨⟨_, r1.setCell (1 + j) v, by simpa using hs, ?_, fun i hi => ?_, ?_, ?_, ?_, ?_⟩, ?_, fun n hn => ?_, h.inj, fun i hi => ?_, fun i i' hi hi' hne k hk => ?_, ?_, h.good⟩, f3.mono (fun k _ e => ?_), fun k hk => ?_⟩
  · rw [Array.getElem?_setIfInBounds_ne (by omega)]; exact h0.c0
  · show _ = some (uV p.V j v i)
    unfold uV
    by_cases e : i = j
    · subst e; rw [if_pos rfl, Array.getElem?_setIfInBounds_self_of_lt (by omega)]
    · rw [if_neg e, Array.getElem?_setIfInBounds_ne (by omega)]; exact h0.cq i hi
  · rw [Array.getElem?_setIfInBounds_ne (by omega)]; exact h0.cc
  · rw [Array.getElem?_setIfInBounds_ne (by omega)]; exact h0.ct
  · rw [Array.getElem?_setIfInBounds_ne (by omega)]; exact h0.cn
  · rw [Array.getElem?_setIfInBounds_ne (by omega)]; exact h0.cl
  · refine h.map.keep f3 (fun e => ?_)
    rcases e with e | e
    · exact (h.bV hj e).2.1 rfl
    · exact h.bm e.symm
  · refine (h.tk n hn).keep f3 (fun e => ?_)
    rcases e with e | e
    · exact (h.bV hj e).2.2.1 n hn rfl
    · exact (h.bB hn).1 e
  · show World.ownsRow _ 0 3 1 (uV p.V j v i) (uq S.q j f i).length (vI (uq S.q j f i))
    unfold uV uq
    by_cases e : i = j
    · subst e
      rw [if_pos rfl, if_pos rfl]
      exact ownsRow_at ho fun q hq hl => f2.block q hl (fun e => hvb q hq e)
    · rw [if_neg e, if_neg e]
      exact ownsRow_at (h.qu i hi) fun q hq hl => f3.block q hl (fun e' => by
        rcases e' with e' | e'
        · exact h.apt i j hi hj e q hq e'
        · exact (h.bV hi hq).1 e')
  · have hk' : some k = (uV p.V j v i).ownBlock := hk
    show some k ≠ (uV p.V j v i').ownBlock
    unfold uV at hk' ⊢
    by_cases e : i = j
    · subst e
      rw [if_pos rfl] at hk'
      rw [if_neg (fun e => hne e.symm)]
      rcases hv k hk' with h1 | h1
      · exact h.apt i i' hj hi' hne k h1
      · intro h2
        have := h.lt k (Or.inr (Or.inr (Or.inr (Or.inl ⟨i', hi', h2⟩))))
        omega
    · rw [if_neg e] at hk'
      by_cases e' : i' = j
      · subst e'
        rw [if_pos rfl]
        intro h2
        rcases hv k h2 with h1 | h1
        · exact h.apt i i' hi hj hne k hk' h1
        · have := h.lt k (Or.inr (Or.inr (Or.inr (Or.inl ⟨i, hi, hk'⟩))))
          omega
      · rw [if_neg e']
        exact h.apt i i' hi hi' hne k hk'
  · exact ownsRow_at h.tbl fun q hq hl => f3.block q hl (fun e => by
      rcases e with e | e
      · exact (h.bV hj e).2.2.2 hq
      · exact (h.bT hq).1 e)
  · rcases e with e | e
    · exact Or.inr (Or.inr (Or.inr (Or.inl ⟨j, hj, e⟩)))
    · exact Or.inl e
  · rcases hk with h1 | h1 | h1 | ⟨i, hi, h1⟩ | h1
    · exact Or.inl (Or.inl h1)
    · exact Or.inl (Or.inr (Or.inl h1))
    · exact Or.inl (Or.inr (Or.inr (Or.inl h1)))
    · have h1' : some k = (uV p.V j v i).ownBlock := h1
      unfold uV at h1'
      by_cases e : i = j
      · rw [if_pos e] at h1'
        rcases hv k h1' with h2 | h2
        · exact Or.inl (Or.inr (Or.inr (Or.inr (Or.inl ⟨j, hj, h2⟩))))
        · exact Or.inr h2
      · rw [if_neg e] at h1'
        exact Or.inl (Or.inr (Or.inr (Or.inr (Or.inl ⟨i, hi, h1'⟩))))
    · exact Or.inl (Or.inr (Or.inr (Or.inr (Or.inr h1))))

def updB (B : Int → Nat) (i : Int) (g : Nat) : Int → Nat := fun j => if j = i then g else B j
/-- One thread more: laid in block g, the map turned. -/
theorem IsS.add {w1 w2 : World} (h : IsS w p S) {n : Tk} (hn : okT n) (hc : S.c ≠ n.i) (hf : fnd S.L n.i = none) {g : Nat} (hg : w.heap.size ≤ g) (f1 : Fr none' w w1) (hs : TkR w1 g n) (f2 : Fr (at' p.m) w1 w2)
    (hm : MP w2 p.m (S.L.length + 1) (fun j => if n.i = j then some g else mapF p S.L j)) : Chg w p S w2 { p with B := updB p.B n.i g } { S with L := S.L ++ [n] } := by
  have nm : ∀ m ∈ S.L, m.i ≠ n.i := fun m hm e => fnd_none hf m hm (by rw [e])
  have hB : ∀ m ∈ S.L, updB p.B n.i g m.i = p.B m.i := fun m hm => by unfold updB; rw [if_neg (nm m hm)]
  have hN : updB p.B n.i g n.i = g := by unfold updB; rw [if_pos rfl]
  have hlt := fun k hk => h.lt k hk
  have h1 := h.keep0 f1
  obtain ⟨cs, h0⟩ := h1.row
  have hC : curV { p with B := updB p.B n.i g } S.c = curV p S.c := by
    unfold curV
    split
    · rfl
    · show pv (updB p.B n.i g S.c) = _
      unfold updB
      rw [if_neg hc]
  have me : ∀ x, x ∈ S.L ++ [n] ↔ x ∈ S.L ∨ x = n := fun x => by simp
  refine ⟨⟨⟨cs, h0.row.keep f2 (fun e => h.bm e), h0.size, h0.c0, h0.cq, by rw [hC]; exact h0.cc, h0.ct, h0.cn, h0.cl⟩, ?_, fun m hm' => ?_, fun m hm' m' hm'' e => ?_, fun j hj => ?_, h.apt, ?_, ?_⟩, ?_, fun k hk => ?_⟩
  · show MP w2 p.m (S.L ++ [n]).length _
    rw [List.length_append]
    refine MP.congr hm fun k => ?_
    unfold mapF
    show _ = (fnd (S.L ++ [n]) k).map _
    rw [fnd_append]
    by_cases e : n.i = k
    · rw [if_pos e]
      rw [← e, hf]
      simp only [fnd, if_true, Option.map_some]
      rw [hN]
    · rw [if_neg e]
      cases hk : fnd S.L k with
      | none => simp only [fnd, if_neg e]; rfl
      | some x =>
        show some (p.B x.i) = some (updB p.B n.i g x.i)
        rw [hB x (fnd_mem hk).1]
  · show TkR w2 (updB p.B n.i g m.i) _
    rcases (me m).1 hm' with q | rfl
    · rw [hB m q]
      exact (h1.tk m q).keep f2 (fun e => (h.bB q).2 e)
    · rw [hN]
      refine hs.keep f2 (fun e => ?_)
      have e' : g = p.m := e
      have := hlt p.m (Or.inr (Or.inl rfl))
      omega
  · have e' : updB p.B n.i g m.i = updB p.B n.i g m'.i := e
    rcases (me m).1 hm' with q1 | q1
    · rcases (me m').1 hm'' with q2 | q2
      · rw [hB m q1, hB m' q2] at e'
        exact h.inj m q1 m' q2 e'
      · rw [q2, hN, hB m q1] at e'
        have := hlt _ (Or.inr (Or.inr (Or.inl ⟨m, q1, rfl⟩)))
        omega
    · rcases (me m').1 hm'' with q2 | q2
      · rw [q1, hN, hB m' q2] at e'
        have := hlt _ (Or.inr (Or.inr (Or.inl ⟨m', q2, rfl⟩)))
        omega
      · rw [q1, q2]
  · exact ownsRow_at (h1.qu j hj) fun q hq hl => f2.block q hl (fun e => (h.bV hj hq).2.1 e)
  · exact ownsRow_at h1.tbl fun q hq hl => f2.block q hl (fun e => (h.bT hq).2.1 e)
  · refine ⟨fun x hx => ?_, ?_⟩
    · rcases (me x).1 hx with q | rfl
      · exact h.good.all x q
      · exact hn
    · rw [List.pairwise_append]
      exact ⟨h.good.one, by simp, fun a ha b hb => by simp at hb; subst hb; exact nm a ha⟩
  · exact (f1.mono (fun _ _ h => h.elim)).trans (f2.mono (fun k _ e => Or.inr (Or.inl e)))
  · rcases hk with h1 | h1 | ⟨m, hm', h1⟩ | h1 | h1
    · exact Or.inl (Or.inl h1)
    · exact Or.inl (Or.inr (Or.inl h1))
    · have h1' : k = updB p.B n.i g m.i := h1
      rcases (me m).1 hm' with q | q
      · rw [hB m q] at h1'
        exact Or.inl (Or.inr (Or.inr (Or.inl ⟨m, q, h1'⟩)))
      · rw [q, hN] at h1'
        exact Or.inr (by omega)
    · exact Or.inl (Or.inr (Or.inr (Or.inr (Or.inl h1))))
    · exact Or.inl (Or.inr (Or.inr (Or.inr (Or.inr h1))))

/-- One thread less. -/
theorem IsS.del {w2 : World} (h : IsS w p S) {k : Int} (f2 : Fr (at' p.m) w w2) (hm : MP w2 p.m (del S.L k).length (fun j => if j = k then none else mapF p S.L j)) : Chg w p S w2 p { S with L := del S.L k } := by
  have hl : ∀ m, m ∈ Go.Proofs.Ytipfgenbfnkpfaa.del S.L k → m ∈ S.L := fun m hm => (mem_del.mp hm).1
  obtain ⟨cs, h0⟩ := h.row
  refine ⟨⟨⟨cs, h0.row.keep f2 (fun e => h.bm e), h0.size, h0.c0, h0.cq, h0.cc, h0.ct, h0.cn, h0.cl⟩, MP.congr hm fun j => ?_, fun m hm' => (h.tk m (hl m hm')).keep f2 (fun e => (h.bB (hl m hm')).2 e), fun m hm' m' hm'' e => h.inj m (hl m hm') m' (hl m' hm'') e, fun j hj => ?_, h.apt, ?_, good_del h.good k⟩, f2.mono (fun k _ e => Or.inr (Or.inl e)), fun j hj => ?_⟩
  · unfold mapF
    show _ = (fnd (Go.Proofs.Ytipfgenbfnkpfaa.del S.L k) j).map _
    rw [fnd_del]
    split <;> rfl
  · exact ownsRow_at (h.qu j hj) fun q hq hl => f2.block q hl (fun e => (h.bV hj hq).2.1 e)
  · exact ownsRow_at h.tbl fun q hq hl => f2.block q hl (fun e => (h.bT hq).2.1 e)
  · left
    rcases hj with h1 | h1 | ⟨m, hm', h1⟩ | h1 | h1
    · exact Or.inl h1
    · exact Or.inr (Or.inl h1)
    · exact Or.inr (Or.inr (Or.inl ⟨m, hl m hm', h1⟩))
    · exact Or.inr (Or.inr (Or.inr (Or.inl h1)))
    · exact Or.inr (Or.inr (Or.inr (Or.inr h1)))
end

theorem map_none {p : Pb} {L : List Tk} {k : Int} (h : fnd L k = none) : mapF p L k = none := by unfold mapF; rw [h]; rfl
theorem map_some {p : Pb} {L : List Tk} {k : Int} {n : Tk} (h : fnd L k = some n) : mapF p L k = some (p.B k) := by unfold mapF; rw [h]; show some (p.B n.i) = _; rw [(fnd_mem h).2]

end Go.Proofs.Ytipfgenbfnkpfaa
