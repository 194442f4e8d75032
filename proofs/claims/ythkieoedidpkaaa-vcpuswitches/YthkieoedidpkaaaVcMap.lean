/-
  Maps of numbers to pointers told as what they hold. No statement is proved here.
-/
import Derived.Test.YthkieoedidpkaaaVgRow
import Derived.Test.YthkieoedidpkaaaVcDefs
namespace Go.Proofs.Ythkieoedidpkaaa
open Go.RowKit Go.Maps Go.WideMaps

abbrev pv (g : Nat) : Value := .pointer (some ⟨g, 0, none⟩)
def pgd (g : Nat) : DataW Unit := .agg [.lit (.int .i64 g)]
def pgd0 : DataW Unit := .agg []
def pgEl (v : Value) : Option (DataW Unit × List MemPlace) := match v with
  | .pointer (some ⟨g, 0, none⟩) => some (pgd g, [])
  | .pointer none => some (pgd0, [])
  | _ => none
theorem pgEl_mk (g : Nat) : pgEl (pv g) = some (pgd g, []) := rfl
theorem pgEl_inv {v : Value} {y : DataW Unit × List MemPlace} (h : pgEl v = some y) : (∃ g : Nat, v = pv g ∧ y = (pgd g, [])) ∨ (v = .pointer none ∧ y = (pgd0, [])) := by
  unfold pgEl at h
  split at h
  · rename_i g
    cases h
    exact Or.inl ⟨g, rfl, rfl⟩
  · cases h
    exact Or.inr ⟨rfl, rfl⟩
  · cases h
theorem pgd_inj {l m : Nat} (h : pgd l = pgd m) : l = m := by
  simp only [pgd, DataW.agg.injEq, List.cons.injEq, DataW.lit.injEq, Lit.int.injEq, true_and, and_true] at h
  omega
theorem pgd_ne {l : Nat} : pgd l ≠ pgd0 := by simp [pgd, pgd0]

/-- A map's datum says this of its keys. -/
structure PMg (D : DataW Unit) (n : Nat) (f : Int → Option Nat) : Prop where
  tidy : Tidy D
  has : ∀ k : Int, Maps.has D (.int .i64 k) = (f k).isSome
  at' : ∀ k g, f k = some g → ∀ z, D.atKey (.int .i64 k) z = pgd g
  key : ∀ kl, Maps.has D kl = true → ∃ k : Int, kl = .int .i64 k
  size : Maps.size D = n

theorem pmg_nil : PMg (.map []) 0 (fun _ => none) where
  tidy := tidy_empty
  has _ := rfl
  at' _ _ h := by cases h
  key _ h := by cases h
  size := rfl

theorem plit_ne {a b : Int} (h : a ≠ b) : (Lit.int .i64 a) ≠ .int .i64 b := by simpa using h

theorem pmg_put {D : DataW Unit} {n : Nat} {f f' : Int → Option Nat} (h : PMg D n f) {k : Int} (hk : f k = none) (g : Nat) (hf : ∀ j, f' j = if k = j then some g else f j) : PMg (D.put (.int .i64 k) (pgd g)) (n + 1) f' := by
  have hkl : WideAt.IsKeyLit (.int .i64 k) := trivial
  refine ⟨h.tidy.put hkl _, fun j => ?_, fun j q hj z => ?_, fun kl hh => ?_, ?_⟩
  · rw [hf]
    by_cases e : k = j
    · subst e; rw [if_pos rfl, has_put_same h.tidy.isMap hkl]; rfl
    · rw [if_neg e, has_put_other (plit_ne (fun e' => e e'.symm))]; exact h.has j
  · rw [hf] at hj
    by_cases e : k = j
    · subst e; rw [if_pos rfl] at hj; cases hj; exact atKey_put_same h.tidy.isMap hkl _ _
    · rw [if_neg e] at hj; rw [atKey_put_other (plit_ne (fun e' => e e'.symm))]; exact h.at' j q hj z
  · by_cases e : kl = .int .i64 k
    · exact ⟨k, e⟩
    · rw [has_put_other e] at hh; exact h.key kl hh
  · rw [size_put h.tidy, h.size, h.has, hk]; rfl

theorem pmg_del {D : DataW Unit} {n : Nat} {f f' : Int → Option Nat} (h : PMg D (n + 1) f) {k : Int} {y : Nat} (hk : f k = some y) (hf : ∀ j, f' j = if j = k then none else f j) : PMg (D.del (.int .i64 k)) n f' := by
  refine ⟨h.tidy.del _, fun j => ?_, fun j q hj z => ?_, fun kl hh => ?_, ?_⟩
  · rw [hf]
    by_cases e : j = k
    · subst e; rw [if_pos rfl, has_del_same]; rfl
    · rw [if_neg e, has_del_other (plit_ne e)]; exact h.has j
  · rw [hf] at hj
    by_cases e : j = k
    · rw [if_pos e] at hj; cases hj
    · rw [if_neg e] at hj; rw [atKey_del_other (plit_ne e)]; exact h.at' j q hj z
  · by_cases e : kl = .int .i64 k
    · exact ⟨k, e⟩
    · rw [has_del_other e] at hh; exact h.key kl hh
  · have h1 := size_del (k := .int .i64 k) h.tidy
    rw [h.size, h.has, hk] at h1
    simp at h1
    omega

/-- Block b is a map that says this. -/
def MP (w : World) (b n : Nat) (f : Int → Option Nat) : Prop := ∃ D, w.ownsMap Try.prog 3 pgEl b n D ∧ PMg D n f

theorem pown_tight {w : World} {b n m : Nat} {D : DataW Unit} (h : w.ownsMap Try.prog 3 pgEl b n D) (hm : Maps.size D ≤ m) : w.ownsMap Try.prog 3 pgEl b m D := by
  obtain ⟨es, clock, hb, F, _, rfl⟩ := h
  refine ⟨es, clock, hb, F, ?_, rfl⟩
  simpa [Maps.size, length_sorted] using hm

theorem mp_made (w : World) : MP (w.alloc (.map #[] 0)) w.heap.size 0 (fun _ => none) := ⟨_, World.ownsMap_made w _ _ _, pmg_nil⟩

theorem pkey3 {k : Int} (hk : I64 k) : keyOf Try.prog 3 (.int .i64 k) = some (.int .i64 k) := keyOf_int_mk Try.underlying3 (by
  obtain ⟨hk1, hk2⟩ := hk
  have h1 : IntKind.i64.min = -9223372036854775808 := rfl
  have h2 : IntKind.i64.max = 9223372036854775807 := rfl
  simp only [Lit.wf, h1, h2, Bool.and_eq_true, decide_eq_true_eq]
  omega)
theorem pzero (w : World) : (zeroValue 70).run Try.prog w = .ok (.pointer none) w := Try.zeroValue70 w

section
variable {w : World} {b n : Nat} {f : Int → Option Nat}
theorem MP.lt (h : MP w b n f) : b < w.heap.size := by obtain ⟨D, h, _⟩ := h; exact h.lt
theorem MP.keep {S : Nat → Prop} {w' : World} (h : MP w b n f) (k : Fr S w w') (hs : ¬ S b) : MP w' b n f := by
  have hl := h.lt
  obtain ⟨D, ⟨es, clock, hb, F, hn, hD⟩, hM⟩ := h
  exact ⟨D, ⟨es, clock, (k.block b hl hs).trans hb, F, hn, hD⟩, hM⟩
theorem MP.congr {f' : Int → Option Nat} (h : MP w b n f) (e : ∀ k, f k = f' k) : MP w b n f' := by
  rw [← funext e]; exact h
/-- It is no block of cells. -/
theorem MP.ne {c : Nat} {cs : Array Value} {t : TypeId} (h : MP w b n f) (r : Row w c cs t) : b ≠ c := by
  rintro rfl
  obtain ⟨D, ⟨es, clock, hb, _⟩, _⟩ := h
  have r' : w.heap[b]? = some (.cells cs t (0, 0)) := r
  rw [hb] at r'
  cases r'

theorem MP.look_none (h : MP w b n f) {k : Int} (hk : I64 k) (hf : f k = none) :
    (Instr.lookup 49 (.map (some b)) (.int .i64 k) true).run Try.prog w = .ok (.tuple #[.pointer none, .bool false]) w := by
  obtain ⟨D, h, M⟩ := h
  obtain ⟨v, ps, hrun, hv⟩ := h.look_ok law3 Try.underlying49 (pzero w) (show pgEl (.pointer none) = some (pgd0, []) from rfl) (pkey3 hk)
  rw [hrun, M.has, hf]
  rw [atKey_of_not_has (by rw [M.has, hf]; rfl)] at hv
  rcases pgEl_inv hv with ⟨g, rfl, e⟩ | ⟨rfl, e⟩
  · exact absurd (congrArg Prod.fst e).symm pgd_ne
  · rfl
theorem MP.look_some (h : MP w b n f) {k : Int} (hk : I64 k) {g : Nat} (hf : f k = some g) :
    (Instr.lookup 49 (.map (some b)) (.int .i64 k) true).run Try.prog w = .ok (.tuple #[pv g, .bool true]) w := by
  obtain ⟨D, h, M⟩ := h
  obtain ⟨v, ps, hrun, hv⟩ := h.look_ok law3 Try.underlying49 (pzero w) (show pgEl (.pointer none) = some (pgd0, []) from rfl) (pkey3 hk)
  rw [hrun, M.has, hf]
  rw [M.at' k g hf] at hv
  rcases pgEl_inv hv with ⟨g', rfl, e⟩ | ⟨rfl, e⟩
  · obtain rfl := pgd_inj (congrArg Prod.fst e)
    rfl
  · exact absurd (congrArg Prod.fst e) pgd_ne
theorem MP.look0_some (h : MP w b n f) {k : Int} (hk : I64 k) {g : Nat} (hf : f k = some g) :
    (Instr.lookup 49 (.map (some b)) (.int .i64 k) false).run Try.prog w = .ok (pv g) w := by
  obtain ⟨D, h, M⟩ := h
  obtain ⟨v, ps, hrun, hv⟩ := h.lookup law3 Try.underlying49 (pzero w) (show pgEl (.pointer none) = some (pgd0, []) from rfl) (pkey3 hk)
  rw [hrun]
  rw [M.at' k g hf] at hv
  rcases pgEl_inv hv with ⟨g', rfl, e⟩ | ⟨rfl, e⟩
  · obtain rfl := pgd_inj (congrArg Prod.fst e)
    rfl
  · exact absurd (congrArg Prod.fst e) pgd_ne
theorem MP.store (h : MP w b n f) (hn : n ≤ 1024) {k : Int} (hk : I64 k) (hf : f k = none) (g : Nat) {f' : Int → Option Nat} (hf' : ∀ j, f' j = if k = j then some g else f j) :
    ∃ w', (Instr.mapUpdate 49 (.map (some b)) (.int .i64 k) (pv g)).run Try.prog w = .ok () w' ∧ MP w' b (n + 1) f' ∧ Fr (at' b) w w' := by
  obtain ⟨D, h, M⟩ := h
  obtain ⟨w', hrun, h', ht⟩ := h.store law3 Try.underlying49 (by simp only [maxLen]; omega) (pkey3 hk) (pgEl_mk g)
  have M' := pmg_put M hf g hf'
  exact ⟨w', hrun, ⟨_, pown_tight h' (by rw [M'.size]; omega), M'⟩, fr_map ht.grown⟩
theorem MP.drop (h : MP w b (n + 1) f) {k : Int} (hk : I64 k) {y : Nat} (hf : f k = some y) {f' : Int → Option Nat} (hf' : ∀ j, f' j = if j = k then none else f j) :
    ∃ w', (∀ ty, (Builtin.delete_ #[49, 3] ty #[.map (some b), .int .i64 k]).run Try.prog w = .ok (.tuple #[]) w') ∧ MP w' b n f' ∧ Fr (at' b) w w' := by
  obtain ⟨D, h, M⟩ := h
  obtain ⟨w', hrun, h', ht⟩ := h.drop law3 Try.underlying49 (pkey3 hk) 0
  have M' := pmg_del M hf hf'
  refine ⟨w', fun ty => ?_, ⟨_, pown_tight h' (by rw [M'.size]; omega), M'⟩, fr_map ht.grown⟩
  rw [← hrun]
  rfl
end

end Go.Proofs.Ythkieoedidpkaaa
