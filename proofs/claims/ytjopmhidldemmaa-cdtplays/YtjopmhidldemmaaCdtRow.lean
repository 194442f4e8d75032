/-
  A forest's own blocks (a struct, a map, a block a place) told as what they hold ('IsT'): laws on reading and writing them. No statement is proved here.
-/
import Derived.Test.YtjopmhidldemmaaCdtDefs
import Derived.Test.YtjopmhidldemmaaProg
import Derived.Shelf.Abstract
import Derived.Maps.OwnSet
import Derived.DeepKeys5
namespace Go.Proofs.Ytjopmhidldemmaa
open Go.RowKit Go.Maps Go.WideMaps

theorem fr_of_grown {w w' : World} {row : Option Nat} (h : w.grownBy w' row) : Fr (fun k => some k = row) w w' :=
  ⟨h.os, h.tape, h.output, h.size, fun k hk hn => h.block k hk hn⟩
theorem fr_map {w w' : World} {b : Nat} (h : w.grownBy w' (some b)) : Fr (at' b) w w' := (fr_of_grown h).mono (fun k _ e => (Option.some.inj e : k = b))
theorem fr_grown0 {w w' : World} (h : w.grownBy w' none) : Fr none' w w' := (fr_of_grown h).mono (fun k _ e => by cases e)
theorem post_void {fn : Func} {R : Ending → World → Prop} {a : Act} {w : World} (hd : a.defers = []) (hr : fn.results = #[]) (h : ∀ v, R (.returned v) w) : bodyPost Try.prog fn R .normal a w :=
  ⟨hd, .tuple #[], by simp [results, hr], h _⟩

/-! ### names as keys -/
abbrev rfV (a : Rf) : Value := .agg #[.int .i64 a.n, .int .i64 a.i]
theorem laid_out : laidOutB Try.prog = true := by kernel_rfl
theorem row33 : (33 : TypeId) < Try.prog.types.size := of_decide_eq_true (by kernel_rfl)
theorem wide33 : (match Try.prog.underlying 33 with | some (.array _ _) | some (.struct _) => true | _ => false) = true := by rw [Try.underlying33]
theorem law33 : Keyed Try.prog 33 := Keyed.of_law (deep_law_laid laid_out (m := 3) (by omega) row33 (by kernel_rfl) wide33)
theorem kt33 : Try.prog.keyType 33 = true := by kernel_rfl
theorem cells33 : Try.prog.cellsOf 33 = 2 := by kernel_rfl
theorem formed33 (a : Rf) : (rfV a).formed Try.prog 33 = true := by simp [Value.formed, Try.underlying33, cells33]
def kl (a : Rf) : Lit := .string (keyBytes [.int .i64 a.n, .int .i64 a.i])
theorem wf64 {x : Int} (hx : I64 x) : (Lit.int .i64 x).wf = true := by
  obtain ⟨hk1, hk2⟩ := hx
  have h1 : IntKind.i64.min = -9223372036854775808 := rfl
  have h2 : IntKind.i64.max = 9223372036854775807 := rfl
  simp only [Lit.wf, h1, h2, Bool.and_eq_true, decide_eq_true_eq]
  omega
theorem lits33 {a : Rf} (h : a.Ok) : Try.prog.keyLits (Try.prog.types.size + 1) 33 [.int .i64 a.n, .int .i64 a.i] = some [.int .i64 a.n, .int .i64 a.i] := by
  obtain ⟨m, hm⟩ : ∃ m, Try.prog.types.size = m + 1 := ⟨_, (by kernel_rfl : Try.prog.types.size = (Try.prog.types.size - 1) + 1)⟩
  rw [hm]
  have h1 := wf64 h.1
  have h2 := wf64 h.2
  have c3 : Try.prog.cellsOf 3 = 1 := by kernel_rfl
  simp [Program.keyLits, Try.underlying33, cells33, Try.underlying3, c3, h1, h2]
theorem key33 {a : Rf} (h : a.Ok) : keyOf Try.prog 33 (rfV a) = some (kl a) := by
  unfold keyOf
  rw [Try.underlying33]
  simp only [kt33, formed33, Bool.and_self, if_true]
  rw [show (rfV a).cells.toList = [.int .i64 a.n, .int .i64 a.i] from rfl, lits33 h]
  rfl
theorem kl_inj {a b : Rf} (ha : a.Ok) (hb : b.Ok) (h : kl a = kl b) : a = b := by
  have := law33.inj (key33 ha) (by rw [h]; exact key33 hb)
  simp at this
  exact Rf.ext' this.1 this.2

/-! ### the map of places -/
abbrev pv (g : Nat) : Value := .pointer (some ⟨g, 0, none⟩)
def gd (g : Nat) : DataW Unit := .agg [.lit (.int .i64 g)]
def gd0 : DataW Unit := .agg []
def gEl (v : Value) : Option (DataW Unit × List MemPlace) := match v with
  | .pointer (some ⟨g, 0, none⟩) => some (gd g, [])
  | .pointer none => some (gd0, [])
  | _ => none
theorem gEl_mk (g : Nat) : gEl (pv g) = some (gd g, []) := rfl
theorem gEl_inv {v : Value} {y : DataW Unit × List MemPlace} (h : gEl v = some y) : (∃ g : Nat, v = pv g ∧ y = (gd g, [])) ∨ (v = .pointer none ∧ y = (gd0, [])) := by
  unfold gEl at h
  split at h
  · rename_i g
    cases h
    exact Or.inl ⟨g, rfl, rfl⟩
  · cases h
    exact Or.inr ⟨rfl, rfl⟩
  · cases h
theorem gd_inj {l m : Nat} (h : gd l = gd m) : l = m := by
  simp only [gd, DataW.agg.injEq, List.cons.injEq, DataW.lit.injEq, Lit.int.injEq, true_and, and_true] at h
  omega
theorem gd_ne {l : Nat} : gd l ≠ gd0 := by simp [gd, gd0]

/-- A map's datum says this of its keys. -/
structure Mg (D : DataW Unit) (n : Nat) (f : Rf → Option Nat) : Prop where
  tidy : Tidy D
  has : ∀ a : Rf, a.Ok → Maps.has D (kl a) = (f a).isSome
  at' : ∀ (a : Rf) g, a.Ok → f a = some g → ∀ z, D.atKey (kl a) z = gd g
  size : Maps.size D = n

theorem mg_nil : Mg (.map []) 0 (fun _ => none) where
  tidy := tidy_empty
  has _ _ := rfl
  at' _ _ _ h := by cases h
  size := rfl

theorem mg_put {D : DataW Unit} {n : Nat} {f : Rf → Option Nat} (h : Mg D n f) {a : Rf} (ha : a.Ok) (g : Nat) : Mg (D.put (kl a) (gd g)) (if (f a).isSome then n else n + 1) (fun b => if b = a then some g else f b) := by
  have hkl : WideAt.IsKeyLit (kl a) := trivial
  refine ⟨h.tidy.put hkl _, fun b hb => ?_, fun b q hb hj z => ?_, ?_⟩
  · by_cases e : b = a
    · subst e; rw [if_pos rfl, has_put_same h.tidy.isMap hkl]; rfl
    · rw [if_neg e, has_put_other (fun e' => e (kl_inj hb ha e'))]; exact h.has b hb
  · by_cases e : b = a
    · subst e; rw [if_pos rfl] at hj; cases hj; exact atKey_put_same h.tidy.isMap hkl _ _
    · rw [if_neg e] at hj; rw [atKey_put_other (fun e' => e (kl_inj hb ha e'))]; exact h.at' b q hb hj z
  · rw [size_put h.tidy, h.size, h.has a ha]

theorem mg_del {D : DataW Unit} {n : Nat} {f : Rf → Option Nat} (h : Mg D (n + 1) f) {a : Rf} (ha : a.Ok) {y : Nat} (hk : f a = some y) : Mg (D.del (kl a)) n (fun b => if b = a then none else f b) := by
  refine ⟨h.tidy.del _, fun b hb => ?_, fun b q hb hj z => ?_, ?_⟩
  · by_cases e : b = a
    · subst e; rw [if_pos rfl, has_del_same]; rfl
    · rw [if_neg e, has_del_other (fun e' => e (kl_inj hb ha e'))]; exact h.has b hb
  · by_cases e : b = a
    · rw [if_pos e] at hj; cases hj
    · rw [if_neg e] at hj; rw [atKey_del_other (fun e' => e (kl_inj hb ha e'))]; exact h.at' b q hb hj z
  · have h1 := size_del (k := kl a) h.tidy
    rw [h.size, h.has a ha, hk] at h1
    simp at h1
    omega

/-- Block b is a map that says this. -/
def MP (w : World) (b n : Nat) (f : Rf → Option Nat) : Prop := ∃ D, w.ownsMap Try.prog 33 gEl b n D ∧ Mg D n f

theorem own_tight {w : World} {b n m : Nat} {D : DataW Unit} (h : w.ownsMap Try.prog 33 gEl b n D) (hm : Maps.size D ≤ m) : w.ownsMap Try.prog 33 gEl b m D := by
  obtain ⟨es, clock, hb, F, _, rfl⟩ := h
  refine ⟨es, clock, hb, F, ?_, rfl⟩
  simpa [Maps.size, length_sorted] using hm

theorem mp_made (w : World) : MP (w.alloc (.map #[] 0)) w.heap.size 0 (fun _ => none) := ⟨_, World.ownsMap_made w _ _ _, mg_nil⟩
theorem zeroP (w : World) : (zeroValue 45).run Try.prog w = .ok (.pointer none) w := Try.zeroValue45 w

section
variable {w : World} {b n : Nat} {f : Rf → Option Nat}
theorem MP.lt (h : MP w b n f) : b < w.heap.size := by obtain ⟨D, h, _⟩ := h; exact h.lt
theorem MP.keep {S : Nat → Prop} {w' : World} (h : MP w b n f) (k : Fr S w w') (hs : ¬ S b) : MP w' b n f := by
  have hl := h.lt
  obtain ⟨D, ⟨es, clock, hb, F, hn, hD⟩, hM⟩ := h
  exact ⟨D, ⟨es, clock, (k.block b hl hs).trans hb, F, hn, hD⟩, hM⟩
theorem MP.congr {f' : Rf → Option Nat} (h : MP w b n f) (e : ∀ a, f a = f' a) : MP w b n f' := by
  rw [← funext e]; exact h
/-- It is no block of cells. -/
theorem MP.ne {c : Nat} {cs : Array Value} {t : TypeId} (h : MP w b n f) (r : Row w c cs t) : b ≠ c := by
  rintro rfl
  obtain ⟨D, ⟨es, clock, hb, _⟩, _⟩ := h
  have r' : w.heap[b]? = some (.cells cs t (0, 0)) := r
  rw [hb] at r'
  cases r'

theorem MP.look_none (h : MP w b n f) {a : Rf} (ha : a.Ok) (hf : f a = none) :
    (Instr.lookup 48 (.map (some b)) (rfV a) true).run Try.prog w = .ok (.tuple #[.pointer none, .bool false]) w := by
  obtain ⟨D, h, M⟩ := h
  obtain ⟨v, ps, hrun, hv⟩ := h.look_ok law33 Try.underlying48 (zeroP w) (show gEl (.pointer none) = some (gd0, []) from rfl) (key33 ha)
  rw [hrun, M.has a ha, hf]
  rw [atKey_of_not_has (by rw [M.has a ha, hf]; rfl)] at hv
  rcases gEl_inv hv with ⟨g, rfl, e⟩ | ⟨rfl, e⟩
  · exact absurd (congrArg Prod.fst e).symm gd_ne
  · rfl
theorem MP.look_some (h : MP w b n f) {a : Rf} (ha : a.Ok) {g : Nat} (hf : f a = some g) :
    (Instr.lookup 48 (.map (some b)) (rfV a) true).run Try.prog w = .ok (.tuple #[pv g, .bool true]) w := by
  obtain ⟨D, h, M⟩ := h
  obtain ⟨v, ps, hrun, hv⟩ := h.look_ok law33 Try.underlying48 (zeroP w) (show gEl (.pointer none) = some (gd0, []) from rfl) (key33 ha)
  rw [hrun, M.has a ha, hf]
  rw [M.at' a g ha hf] at hv
  rcases gEl_inv hv with ⟨g', rfl, e⟩ | ⟨rfl, e⟩
  · obtain rfl := gd_inj (congrArg Prod.fst e)
    rfl
  · exact absurd (congrArg Prod.fst e) gd_ne
theorem MP.look0_some (h : MP w b n f) {a : Rf} (ha : a.Ok) {g : Nat} (hf : f a = some g) :
    (Instr.lookup 48 (.map (some b)) (rfV a) false).run Try.prog w = .ok (pv g) w := by
  obtain ⟨D, h, M⟩ := h
  obtain ⟨v, ps, hrun, hv⟩ := h.lookup law33 Try.underlying48 (zeroP w) (show gEl (.pointer none) = some (gd0, []) from rfl) (key33 ha)
  rw [hrun]
  rw [M.at' a g ha hf] at hv
  rcases gEl_inv hv with ⟨g', rfl, e⟩ | ⟨rfl, e⟩
  · obtain rfl := gd_inj (congrArg Prod.fst e)
    rfl
  · exact absurd (congrArg Prod.fst e) gd_ne
theorem MP.store (h : MP w b n f) (hn : n ≤ 1024) {a : Rf} (ha : a.Ok) (g : Nat) :
    ∃ w', (Instr.mapUpdate 48 (.map (some b)) (rfV a) (pv g)).run Try.prog w = .ok () w' ∧ MP w' b (if (f a).isSome then n else n + 1) (fun x => if x = a then some g else f x) ∧ Fr (at' b) w w' := by
  obtain ⟨D, h, M⟩ := h
  obtain ⟨w', hrun, h', ht⟩ := h.store law33 Try.underlying48 (by simp only [maxLen]; omega) (key33 ha) (gEl_mk g)
  have M' := mg_put M ha g
  exact ⟨w', hrun, ⟨_, own_tight h' (by rw [M'.size]; exact Nat.le_refl _), M'⟩, fr_map ht.grown⟩
theorem MP.drop (h : MP w b (n + 1) f) {a : Rf} (ha : a.Ok) {y : Nat} (hf : f a = some y) :
    ∃ w', (∀ ty, (Builtin.delete_ #[48, 33] ty #[.map (some b), rfV a]).run Try.prog w = .ok (.tuple #[]) w') ∧ MP w' b n (fun x => if x = a then none else f x) ∧ Fr (at' b) w w' := by
  obtain ⟨D, h, M⟩ := h
  obtain ⟨w', hrun, h', ht⟩ := h.drop law33 Try.underlying48 (key33 ha) 0
  have M' := mg_del M ha hf
  refine ⟨w', fun ty => ?_, ⟨_, own_tight h' (by rw [M'.size]; exact Nat.le_refl _), M'⟩, fr_map ht.grown⟩
  rw [← hrun]
  rfl
end

end Go.Proofs.Ytjopmhidldemmaa
