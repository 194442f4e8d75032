/-
  A pool's own blocks (a struct, a map, a block a region) told as what they hold ('IsP'): laws on reading and writing them. No statement is proved here.
-/
import Derived.Test.YtcmhndkbcfpbbaaUtDefs
import Derived.Test.YtcmhndkbcfpbbaaRows
import Derived.WalkKit
import Derived.WalkSpells
import Derived.WalkLawsBesides
import Derived.BigQuiet
import Derived.Deep.QuietTactic
import Derived.Laws.ResultCell
import Derived.Laws.Rows
import Derived.Laws.StructEq
import Derived.Deep.RegionHeld3
import Derived.Shelf.Abstract
import Derived.Maps.OwnSet
namespace Go.Proofs.Ytcmhndkbcfpbbaa
open Go.RowKit Go.Maps Go.WideMaps

theorem fr_of_grown' {w w' : World} {row : Option Nat} (h : w.grownBy w' row) : Fr (fun k => some k = row) w w' :=
  ⟨h.os, h.tape, h.output, h.size, fun k hk hn => h.block k hk hn⟩
theorem fr_map {w w' : World} {b : Nat} (h : w.grownBy w' (some b)) : Fr (at' b) w w' := (fr_of_grown' h).mono (fun k _ e => (Option.some.inj e : k = b))
theorem row_alloc1 (w : World) (o : Obj) (cs : Array Value) (t : TypeId) : Row ((w.alloc o).alloc (.cells cs t)) (w.heap.size + 1) cs t := by
  have := row_alloc (w.alloc o) cs t
  simpa using this

/-! ### the map of regions -/
abbrev pv (g : Nat) : Value := .pointer (some ⟨g, 0, none⟩)
def gd (g : Nat) : DataW Unit := .agg [.lit (.int .i64 g)]
def gd0 : DataW Unit := .agg []
def gEl (v : Value) : Option (DataW Unit × List MemPlace) := match v with
  | .pointer (some ⟨g, 0, none⟩) => some (gd g, [])
  | .pointer none => some (gd0, [])
  | _ => none
theorem gEl_mk (g : Nat) : gEl (pv g) = some (gd g, []) := rfl
theorem gEl_inv {v : Value} {y : DataW Unit × List MemPlace} (h : gEl v = some y) : (∃ g : Nat, v = pv g ∧ y = (gd g, [])) ∨ (v = .pointer none ∧ y = (gd0, [])) := by
  unfold gEl at h
  split at h
  · rename_i g
    cases h
    exact Or.inl ⟨g, rfl, rfl⟩
  · cases h
    exact Or.inr ⟨rfl, rfl⟩
  · cases h
theorem gd_inj {l m : Nat} (h : gd l = gd m) : l = m := by
  simp only [gd, DataW.agg.injEq, List.cons.injEq, DataW.lit.injEq, Lit.int.injEq, true_and, and_true] at h
  omega
theorem gd_ne {l : Nat} : gd l ≠ gd0 := by simp [gd, gd0]

/-- A map's datum says this of its keys. -/
structure Mg (D : DataW Unit) (n : Nat) (f : Int → Option Nat) : Prop where
  tidy : Tidy D
  has : ∀ k : Int, Maps.has D (.int .i64 k) = (f k).isSome
  at' : ∀ k g, f k = some g → ∀ z, D.atKey (.int .i64 k) z = gd g
  key : ∀ kl, Maps.has D kl = true → ∃ k : Int, kl = .int .i64 k
  size : Maps.size D = n

theorem mg_nil : Mg (.map []) 0 (fun _ => none) where
  tidy := tidy_empty
  has _ := rfl
  at' _ _ h := by cases h
  key _ h := by cases h
  size := rfl

theorem lit_ne {a b : Int} (h : a ≠ b) : (Lit.int .i64 a) ≠ .int .i64 b := by simpa using h

theorem mg_put {D : DataW Unit} {n : Nat} {f f' : Int → Option Nat} (h : Mg D n f) {k : Int} (hk : f k = none) (g : Nat) (hf : ∀ j, f' j = if k = j then some g else f j) : Mg (D.put (.int .i64 k) (gd g)) (n + 1) f' := by
  have hkl : WideAt.IsKeyLit (.int .i64 k) := trivial
  refine ⟨h.tidy.put hkl _, fun j => ?_, fun j q hj z => ?_, fun kl hh => ?_, ?_⟩
  · rw [hf]
    by_cases e : k = j
    · subst e; rw [if_pos rfl, has_put_same h.tidy.isMap hkl]; rfl
    · rw [if_neg e, has_put_other (lit_ne (fun e' => e e'.symm))]; exact h.has j
  · rw [hf] at hj
    by_cases e : k = j
    · subst e; rw [if_pos rfl] at hj; cases hj; exact atKey_put_same h.tidy.isMap hkl _ _
    · rw [if_neg e] at hj; rw [atKey_put_other (lit_ne (fun e' => e e'.symm))]; exact h.at' j q hj z
  · by_cases e : kl = .int .i64 k
    · exact ⟨k, e⟩
    · rw [has_put_other e] at hh; exact h.key kl hh
  · rw [size_put h.tidy, h.size, h.has, hk]; rfl

theorem mg_del {D : DataW Unit} {n : Nat} {f f' : Int → Option Nat} (h : Mg D (n + 1) f) {k : Int} {y : Nat} (hk : f k = some y) (hf : ∀ j, f' j = if j = k then none else f j) : Mg (D.del (.int .i64 k)) n f' := by
  refine ⟨h.tidy.del _, fun j => ?_, fun j q hj z => ?_, fun kl hh => ?_, ?_⟩
  · rw [hf]
    by_cases e : j = k
    · subst e; rw [if_pos rfl, has_del_same]; rfl
    · rw [if_neg e, has_del_other (lit_ne e)]; exact h.has j
  · rw [hf] at hj
    by_cases e : j = k
    · rw [if_pos e] at hj; cases hj
    · rw [if_neg e] at hj; rw [atKey_del_other (lit_ne e)]; exact h.at' j q hj z
  · by_cases e : kl = .int .i64 k
    · exact ⟨k, e⟩
    · rw [has_del_other e] at hh; exact h.key kl hh
  · have h1 := size_del (k := .int .i64 k) h.tidy
    rw [h.size, h.has, hk] at h1
    simp at h1
    omega

/-- Block b is a map that says this. -/
def MP (w : World) (b n : Nat) (f : Int → Option Nat) : Prop := ∃ D, w.ownsMap Try.prog 3 gEl b n D ∧ Mg D n f

theorem own_tight {w : World} {b n m : Nat} {D : DataW Unit} (h : w.ownsMap Try.prog 3 gEl b n D) (hm : Maps.size D ≤ m) : w.ownsMap Try.prog 3 gEl b m D := by
  obtain ⟨es, clock, hb, F, _, rfl⟩ := h
  refine ⟨es, clock, hb, F, ?_, rfl⟩
  simpa [Maps.size, length_sorted] using hm

theorem mp_made (w : World) : MP (w.alloc (.map #[] 0)) w.heap.size 0 (fun _ => none) := ⟨_, World.ownsMap_made w _ _ _, mg_nil⟩

theorem law3 : Keyed Try.prog 3 := int_keyed Try.underlying3
theorem key3 {k : Int} (hk : I64 k) : keyOf Try.prog 3 (.int .i64 k) = some (.int .i64 k) := keyOf_int_mk Try.underlying3 (by
  obtain ⟨hk1, hk2⟩ := hk
  have h1 : IntKind.i64.min = -9223372036854775808 := rfl
  have h2 : IntKind.i64.max = 9223372036854775807 := rfl
  simp only [Lit.wf, h1, h2, Bool.and_eq_true, decide_eq_true_eq]
  omega)
theorem zeroP (w : World) : (zeroValue 82).run Try.prog w = .ok (.pointer none) w := Try.zeroValue82 w

section
variable {w : World} {b n : Nat} {f : Int → Option Nat}
theorem MP.lt (h : MP w b n f) : b < w.heap.size := by obtain ⟨D, h, _⟩ := h; exact h.lt
theorem MP.keep {S : Nat → Prop} {w' : World} (h : MP w b n f) (k : Fr S w w') (hs : ¬ S b) : MP w' b n f := by
  have hl := h.lt
  obtain ⟨D, ⟨es, clock, hb, F, hn, hD⟩, hM⟩ := h
  exact ⟨D, ⟨es, clock, (k.block b hl hs).trans hb, F, hn, hD⟩, hM⟩
theorem MP.congr {f' : Int → Option Nat} (h : MP w b n f) (e : ∀ k, f k = f' k) : MP w b n f' := by
  rw [← funext e]; exact h
/-- It is no block of cells. -/
theorem MP.ne {c : Nat} {cs : Array Value} {t : TypeId} (h : MP w b n f) (r : Row w c cs t) : b ≠ c := by
  rintro rfl
  obtain ⟨D, ⟨es, clock, hb, _⟩, _⟩ := h
  have r' : w.heap[b]? = some (.cells cs t (0, 0)) := r
  rw [hb] at r'
  cases r'

theorem MP.look_none (h : MP w b n f) {k : Int} (hk : I64 k) (hf : f k = none) :
    (Instr.lookup 64 (.map (some b)) (.int .i64 k) true).run Try.prog w = .ok (.tuple #[.pointer none, .bool false]) w := by
  obtain ⟨D, h, M⟩ := h
  obtain ⟨v, ps, hrun, hv⟩ := h.look_ok law3 Try.underlying64 (zeroP w) (show gEl (.pointer none) = some (gd0, []) from rfl) (key3 hk)
  rw [hrun, M.has, hf]
  rw [atKey_of_not_has (by rw [M.has, hf]; rfl)] at hv
  rcases gEl_inv hv with ⟨g, rfl, e⟩ | ⟨rfl, e⟩
  · exact absurd (congrArg Prod.fst e).symm gd_ne
  · rfl
theorem MP.look_some (h : MP w b n f) {k : Int} (hk : I64 k) {g : Nat} (hf : f k = some g) :
    (Instr.lookup 64 (.map (some b)) (.int .i64 k) true).run Try.prog w = .ok (.tuple #[pv g, .bool true]) w := by
  obtain ⟨D, h, M⟩ := h
  obtain ⟨v, ps, hrun, hv⟩ := h.look_ok law3 Try.underlying64 (zeroP w) (show gEl (.pointer none) = some (gd0, []) from rfl) (key3 hk)
  rw [hrun, M.has, hf]
  rw [M.at' k g hf] at hv
  rcases gEl_inv hv with ⟨g', rfl, e⟩ | ⟨rfl, e⟩
  · obtain rfl := gd_inj (congrArg Prod.fst e)
    rfl
  · exact absurd (congrArg Prod.fst e) gd_ne
theorem MP.look0_some (h : MP w b n f) {k : Int} (hk : I64 k) {g : Nat} (hf : f k = some g) :
    (Instr.lookup 64 (.map (some b)) (.int .i64 k) false).run Try.prog w = .ok (pv g) w := by
  obtain ⟨D, h, M⟩ := h
  obtain ⟨v, ps, hrun, hv⟩ := h.lookup law3 Try.underlying64 (zeroP w) (show gEl (.pointer none) = some (gd0, []) from rfl) (key3 hk)
  rw [hrun]
  rw [M.at' k g hf] at hv
  rcases gEl_inv hv with ⟨g', rfl, e⟩ | ⟨rfl, e⟩
  · obtain rfl := gd_inj (congrArg Prod.fst e)
    rfl
  · exact absurd (congrArg Prod.fst e) gd_ne
theorem MP.store (h : MP w b n f) (hn : n ≤ 1024) {k : Int} (hk : I64 k) (hf : f k = none) (g : Nat) {f' : Int → Option Nat} (hf' : ∀ j, f' j = if k = j then some g else f j) :
    ∃ w', (Instr.mapUpdate 64 (.map (some b)) (.int .i64 k) (pv g)).run Try.prog w = .ok () w' ∧ MP w' b (n + 1) f' ∧ Fr (at' b) w w' := by
  obtain ⟨D, h, M⟩ := h
  obtain ⟨w', hrun, h', ht⟩ := h.store law3 Try.underlying64 (by simp only [maxLen]; omega) (key3 hk) (gEl_mk g)
  have M' := mg_put M hf g hf'
  exact ⟨w', hrun, ⟨_, own_tight h' (by rw [M'.size]; omega), M'⟩, fr_map ht.grown⟩
theorem MP.drop (h : MP w b (n + 1) f) {k : Int} (hk : I64 k) {y : Nat} (hf : f k = some y) {f' : Int → Option Nat} (hf' : ∀ j, f' j = if j = k then none else f j) :
    ∃ w', (∀ ty, (Builtin.delete_ #[64, 3] ty #[.map (some b), .int .i64 k]).run Try.prog w = .ok (.tuple #[]) w') ∧ MP w' b n f' ∧ Fr (at' b) w w' := by
  obtain ⟨D, h, M⟩ := h
  obtain ⟨w', hrun, h', ht⟩ := h.drop law3 Try.underlying64 (key3 hk) 0
  have M' := mg_del M hf hf'
  refine ⟨w', fun ty => ?_, ⟨_, own_tight h' (by rw [M'.size]; omega), M'⟩, fr_map ht.grown⟩
  rw [← hrun]
  rfl
end

/-! ### regions in blocks -/
abbrev rgA (x : Rg) : Array Value := #[.int .i64 x.f, .int .i64 x.n, .int .i64 x.m, .bool x.d]
abbrev rgV (x : Rg) : Value := .agg (rgA x)
def RgR (w : World) (b : Nat) (x : Rg) : Prop := Row w b (rgA x) 39

section
variable {w : World} {b : Nat} {x : Rg}
theorem RgR.lt (h : RgR w b x) : b < w.heap.size := Row.lt h
theorem RgR.keep {S : Nat → Prop} {w' : World} (h : RgR w b x) (f : Fr S w w') (hs : ¬ S b) : RgR w' b x := Row.keep h f hs
theorem RgR.cells (h : RgR w b x) : w.cell? ⟨b, 0, none⟩ = some (.int .i64 x.f) ∧ w.cell? ⟨b, 1, none⟩ = some (.int .i64 x.n) ∧ w.cell? ⟨b, 2, none⟩ = some (.int .i64 x.m) ∧ w.cell? ⟨b, 3, none⟩ = some (.bool x.d) :=
  ⟨Row.cell h 0, Row.cell h 1, Row.cell h 2, Row.cell h 3⟩
theorem RgR.frozen (h : RgR w b x) (i : Nat) : w.frozen? ⟨b, i, none⟩ = false := Row.frozen h i
theorem RgR.mark (h : RgR w b x) (m : Int) : RgR (w.setCell ⟨b, 2, none⟩ (.int .i64 m)) b ⟨x.f, x.n, m, x.d⟩ := by
  have := Row.setCell h 2 (.int .i64 m)
  exact this
end

/-! ### a pool -/
/-- Its blocks: the struct, the map, each region's. -/
structure Pb where
  b : Nat
  m : Nat
  B : Int → Nat
def Pb.s (p : Pb) (L : List Rg) : Nat → Prop := fun k => k = p.b ∨ k = p.m ∨ ∃ n ∈ L, k = p.B n.f
def mapF (p : Pb) (L : List Rg) : Int → Option Nat := fun k => (fnd L k).map fun n => p.B n.f

structure IsP (w : World) (p : Pb) (L : List Rg) : Prop where
  row : Row w p.b #[.map (some p.m)] 66
  map : MP w p.m L.length (mapF p L)
  rg : ∀ n ∈ L, RgR w (p.B n.f) n
  inj : ∀ n ∈ L, ∀ n' ∈ L, p.B n.f = p.B n'.f → n.f = n'.f
  good : GoodL L

theorem row_ne {w : World} {a b : Nat} {cs cs' : Array Value} {t t' : TypeId} (h : Row w a cs t) (h' : Row w b cs' t') (ht : t ≠ t') : a ≠ b := by
  rintro rfl
  have e : some (Obj.cells cs t (0, 0)) = some (.cells cs' t' (0, 0)) := h.symm.trans h'
  simp at e
  exact ht e.2

section
variable {w : World} {p : Pb} {L : List Rg}
theorem IsP.ne (h : IsP w p L) : p.b ≠ p.m := fun e => h.map.ne h.row e.symm
theorem IsP.ns (h : IsP w p L) : ∀ n ∈ L, p.B n.f ≠ p.b ∧ p.B n.f ≠ p.m := fun n hn => ⟨row_ne (h.rg n hn) h.row (by decide), fun e => h.map.ne (h.rg n hn) e.symm⟩
theorem IsP.keep {T : Nat → Prop} {w' : World} (h : IsP w p L) (f : Fr T w w') (hs : ∀ k, p.s L k → ¬ T k) : IsP w' p L :=
  ⟨h.row.keep f (hs _ (Or.inl rfl)), h.map.keep f (hs _ (Or.inr (Or.inl rfl))), fun n hn => (h.rg n hn).keep f (hs _ (Or.inr (Or.inr ⟨n, hn, rfl⟩))), h.inj, h.good⟩
theorem IsP.keep0 {w' : World} (h : IsP w p L) (f : Fr none' w w') : IsP w' p L := h.keep f (fun _ _ h => h)
theorem IsP.lt (h : IsP w p L) (k : Nat) (hk : p.s L k) : k < w.heap.size := by
  rcases hk with rfl | rfl | ⟨n, hn, rfl⟩
  · exact h.row.lt
  · exact h.map.lt
  · exact (h.rg n hn).lt
theorem IsP.cell (h : IsP w p L) : w.cell? ⟨p.b, 0, none⟩ = some (.map (some p.m)) := h.row.cell 0

/-- What a call leaves. -/
def Chg (w : World) (p : Pb) (L : List Rg) (w' : World) (L' : List Rg) : Prop := ∃ p' : Pb, p'.b = p.b ∧ IsP w' p' L' ∧ Fr (p.s L) w w' ∧ ∀ k, p'.s L' k → p.s L k ∨ w.heap.size ≤ k

theorem Chg.same {w' : World} (h : IsP w p L) (f : Fr none' w w') : Chg w p L w' L := ⟨p, rfl, h.keep0 f, f.mono (fun _ _ h => h.elim), fun _ h => Or.inl h⟩

/-- One mark turned. -/
theorem IsP.mark (h : IsP w p L) {k : Int} {n : Rg} (hf : fnd L k = some n) {m : Int} (hm : 0 ≤ m ∧ m ≤ n.n) : IsP (w.setCell ⟨p.B n.f, 2, none⟩ (.int .i64 m)) p (setM L k m) := by
  obtain ⟨hmm, hid⟩ := fnd_mem hf
  have f : Fr (at' (p.B n.f)) w (w.setCell ⟨p.B n.f, 2, none⟩ (.int .i64 m)) := fr_set _ _ _ _ (Fr.refl _ _)
  have nn := h.ns n hmm
  refine ⟨h.row.keep f (fun e => nn.1 (Eq.symm e)), ?_, fun x hx => ?_, fun x hx x' hx' e => ?_, good_setM h.good (fun y hy => by rw [hf] at hy; cases hy; exact hm)⟩
  · have q := h.map.keep f (fun e => nn.2 (Eq.symm e))
    rw [len_setM]
    refine q.congr fun j => ?_
    unfold mapF
    rw [fnd_setM]
    cases fnd L j with
    | none => rfl
    | some x =>
      simp only [Option.map_some, Option.some.injEq]
      split <;> rfl
  · obtain ⟨y, hy, _, ⟨e1, rfl⟩ | ⟨e1, rfl⟩⟩ := mem_setM hx
    · have : y = n := by
        have := fnd_of_mem h.good.srt hy
        rw [e1, hf] at this
        exact (Option.some.inj this).symm
      subst this
      exact (h.rg y hy).mark m
    · exact (h.rg _ hy).keep f (fun e => by
        have := h.inj _ hy n hmm e
        exact e1 (by rw [this, hid]))
  · obtain ⟨y, hy, e1, _⟩ := mem_setM hx
    obtain ⟨z, hz, e2, _⟩ := mem_setM hx'
    rw [e1, e2] at e ⊢
    exact h.inj y hy z hz e

theorem Chg.mark {w1 : World} (h : IsP w1 p L) (f1 : Fr none' w w1) {k : Int} {n : Rg} (hf : fnd L k = some n) {m : Int} (hm : 0 ≤ m ∧ m ≤ n.n) : Chg w p L (w1.setCell ⟨p.B n.f, 2, none⟩ (.int .i64 m)) (setM L k m) := by
  have hn := (fnd_mem hf).1
  refine ⟨p, rfl, h.mark hf hm, (f1.mono (fun _ _ h => h.elim)).setCell (p := ⟨p.B n.f, 2, none⟩) (Or.inr (Or.inr (Or.inr ⟨n, hn, rfl⟩))) _, fun j hj => ?_⟩
  rcases hj with h1 | h1 | ⟨m', hm', h1⟩
  · exact Or.inl (Or.inl h1)
  · exact Or.inl (Or.inr (Or.inl h1))
  · obtain ⟨z, hz, e1, _⟩ := mem_setM hm'
    rw [e1] at h1
    exact Or.inl (Or.inr (Or.inr ⟨z, hz, h1⟩))

def updB (B : Int → Nat) (i : Int) (g : Nat) : Int → Nat := fun j => if j = i then g else B j

/-- One region more: laid in block g, the map turned. -/
theorem IsP.add {w1 w2 : World} (h : IsP w p L) {n : Rg} (hn : okR n = true) (hf : fnd L n.f = none) {g : Nat} (hg : w.heap.size ≤ g) (f1 : Fr none' w w1) (hs : RgR w1 g n) (f2 : Fr (at' p.m) w1 w2)
    (hm : MP w2 p.m (L.length + 1) (fun j => if n.f = j then some g else mapF p L j)) : Chg w p L w2 (ins n L) := by
  have nm : ∀ m ∈ L, m.f ≠ n.f := fun m hm e => fnd_none hf m hm (by rw [e])
  have hB : ∀ m ∈ L, updB p.B n.f g m.f = p.B m.f := fun m hm => by unfold updB; rw [if_neg (nm m hm)]
  have hN : updB p.B n.f g n.f = g := by unfold updB; rw [if_pos rfl]
  have hlt := fun k hk => h.lt k hk
  have h1 := h.keep0 f1
  refine ⟨⟨p.b, p.m, updB p.B n.f g⟩, rfl, ⟨h1.row.keep f2 h.ne, ?_, fun m hm' => ?_, fun m hm' m' hm'' e => ?_, good_ins h.good hn hf⟩, ?_, fun k hk => ?_⟩
  · rw [len_ins]
    refine hm.congr fun k => ?_
    unfold mapF
    rw [fnd_ins hf]
    by_cases e : n.f = k
    · rw [if_pos e, if_pos e, Option.map_some]
      show some g = some (updB p.B n.f g n.f)
      rw [hN]
    · rw [if_neg e, if_neg e]
      cases hk : fnd L k with
      | none => rfl
      | some x =>
        show some (p.B x.f) = some (updB p.B n.f g x.f)
        rw [hB x (fnd_mem hk).1]
  · show RgR w2 (updB p.B n.f g m.f) _
    rcases mem_ins.mp hm' with rfl | hm'
    · rw [hN]
      refine hs.keep f2 (fun e => ?_)
      have e' : g = p.m := e
      have := hlt p.m (Or.inr (Or.inl rfl))
      omega
    · rw [hB m hm']
      exact (h1.rg m hm').keep f2 (fun e => (h.ns m hm').2 e)
  · show m.f = m'.f
    have e' : updB p.B n.f g m.f = updB p.B n.f g m'.f := e
    rcases mem_ins.mp hm' with q1 | q1
    · rcases mem_ins.mp hm'' with q2 | q2
      · rw [q1, q2]
      · rw [q1, hN, hB m' q2] at e'
        have := hlt _ (Or.inr (Or.inr ⟨m', q2, rfl⟩))
        omega
    · rcases mem_ins.mp hm'' with q2 | q2
      · rw [q2, hN, hB m q1] at e'
        have := hlt _ (Or.inr (Or.inr ⟨m, q1, rfl⟩))
        omega
      · rw [hB m q1, hB m' q2] at e'
        exact h.inj m q1 m' q2 e'
  · exact (f1.mono (fun _ _ h => h.elim)).trans (f2.mono (fun k _ e => Or.inr (Or.inl e)))
  · rcases hk with rfl | rfl | ⟨m, hm', rfl⟩
    · exact Or.inl (Or.inl rfl)
    · exact Or.inl (Or.inr (Or.inl rfl))
    · rcases mem_ins.mp hm' with rfl | hm'
      · right
        show w.heap.size ≤ updB p.B m.f g m.f
        rw [hN]; exact hg
      · left
        exact Or.inr (Or.inr ⟨m, hm', hB m hm'⟩)

/-- One region less. -/
theorem IsP.del {w2 : World} (h : IsP w p L) {k : Int} (f2 : Fr (at' p.m) w w2) (hm : MP w2 p.m (del L k).length (fun j => if j = k then none else mapF p L j)) : Chg w p L w2 (del L k) := by
  have hl : ∀ m, m ∈ Go.Proofs.Ytcmhndkbcfpbbaa.del L k → m ∈ L := fun m hm => (mem_del.mp hm).1
  refine ⟨p, rfl, ⟨h.row.keep f2 h.ne, hm.congr fun j => ?_, fun m hm' => (h.rg m (hl m hm')).keep f2 (fun e => (h.ns m (hl m hm')).2 e), fun m hm' m' hm'' e => h.inj m (hl m hm') m' (hl m' hm'') e, good_del h.good k⟩, f2.mono (fun k _ e => Or.inr (Or.inl e)), fun k hk => ?_⟩
  · unfold mapF
    rw [fnd_del]
    split <;> rfl
  · rcases hk with h1 | h1 | ⟨m, hm', h1⟩
    · exact Or.inl (Or.inl h1)
    · exact Or.inl (Or.inr (Or.inl h1))
    · exact Or.inl (Or.inr (Or.inr ⟨m, hl m hm', h1⟩))
end

end Go.Proofs.Ytcmhndkbcfpbbaa
