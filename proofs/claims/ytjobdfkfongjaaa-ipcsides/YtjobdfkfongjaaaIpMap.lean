/-
  The maps of package ipc (threads by their numbers, badges by their notifications) and a thread's block told as what they hold. No statement is proved here.
-/
import Derived.Test.YtjobdfkfongjaaaIpVal
namespace Go.Proofs.Ytjobdfkfongjaaa
open Go.RowKit Go.Maps Go.WideMaps

theorem fr_of_grown' {w w' : World} {row : Option Nat} (h : w.grownBy w' row) : Fr (fun k => some k = row) w w' :=
  ⟨h.os, h.tape, h.output, h.size, fun k hk hn => h.block k hk hn⟩
theorem fr_map {w w' : World} {b : Nat} (h : w.grownBy w' (some b)) : Fr (at' b) w w' := (fr_of_grown' h).mono (fun k _ e => (Option.some.inj e : k = b))
theorem row_alloc1 (w : World) (o : Obj) (cs : Array Value) (t : TypeId) : Row ((w.alloc o).alloc (.cells cs t)) (w.heap.size + 1) cs t := by
  have := row_alloc (w.alloc o) cs t
  simpa using this

/-! ### maps of threads -/
abbrev pv (g : Nat) : Value := .pointer (some ⟨g, 0, none⟩)
def gd (g : Nat) : DataW Unit := .agg [.lit (.int .i64 g)]
def gd0 : DataW Unit := .agg []
def gEl (v : Value) : Option (DataW Unit × List MemPlace) := match v with
  | .pointer (some ⟨g, 0, none⟩) => some (gd g, [])
  | .pointer none => some (gd0, [])
  | _ => none
theorem gEl_mk (g : Nat) : gEl (pv g) = some (gd g, []) := rfl
theorem gEl_inv {v : Value} {y : DataW Unit × List MemPlace} (h : gEl v = some y) : (∃ g : Nat, v = pv g ∧ y = (gd g, [])) ∨ (v = .pointer none ∧ y = (gd0, [])) := by
  unfold gEl at h
  split at h
  · rename_i g
    cases h
    exact Or.inl ⟨g, rfl, rfl⟩
  · cases h
    exact Or.inr ⟨rfl, rfl⟩
  · cases h
theorem gd_inj {l m : Nat} (h : gd l = gd m) : l = m := by
  simp only [gd, DataW.agg.injEq, List.cons.injEq, DataW.lit.injEq, Lit.int.injEq, true_and, and_true] at h
  omega
theorem gd_ne {l : Nat} : gd l ≠ gd0 := by simp [gd, gd0]

/-- A map's datum says this of its keys. -/
structure Mg (D : DataW Unit) (n : Nat) (f : Int → Option Nat) : Prop where
  tidy : Tidy D
  has : ∀ k : Int, Maps.has D (.int .i64 k) = (f k).isSome
  at' : ∀ k g, f k = some g → ∀ z, D.atKey (.int .i64 k) z = gd g
  key : ∀ kl, Maps.has D kl = true → ∃ k : Int, kl = .int .i64 k
  size : Maps.size D = n

theorem mg_nil : Mg (.map []) 0 (fun _ => none) where
  tidy := tidy_empty
  has _ := rfl
  at' _ _ h := by cases h
  key _ h := by cases h
  size := rfl

theorem lit_ne {a b : Int} (h : a ≠ b) : (Lit.int .i64 a) ≠ .int .i64 b := by simpa using h

theorem mg_put {D : DataW Unit} {n : Nat} {f f' : Int → Option Nat} (h : Mg D n f) {k : Int} (hk : f k = none) (g : Nat) (hf : ∀ j, f' j = if k = j then some g else f j) : Mg (D.put (.int .i64 k) (gd g)) (n + 1) f' := by
  have hkl : WideAt.IsKeyLit (.int .i64 k) := trivial
  refine ⟨h.tidy.put hkl _, fun j => ?_, fun j q hj z => ?_, fun kl hh => ?_, ?_⟩
  · rw [hf]
    by_cases e : k = j
    · subst e; rw [if_pos rfl, has_put_same h.tidy.isMap hkl]; rfl
    · rw [if_neg e, has_put_other (lit_ne (fun e' => e e'.symm))]; exact h.has j
  · rw [hf] at hj
    by_cases e : k = j
    · subst e; rw [if_pos rfl] at hj; cases hj; exact atKey_put_same h.tidy.isMap hkl _ _
    · rw [if_neg e] at hj; rw [atKey_put_other (lit_ne (fun e' => e e'.symm))]; exact h.at' j q hj z
  · by_cases e : kl = .int .i64 k
    · exact ⟨k, e⟩
    · rw [has_put_other e] at hh; exact h.key kl hh
  · rw [size_put h.tidy, h.size, h.has, hk]; rfl

theorem mg_del {D : DataW Unit} {n : Nat} {f f' : Int → Option Nat} (h : Mg D (n + 1) f) {k : Int} {y : Nat} (hk : f k = some y) (hf : ∀ j, f' j = if j = k then none else f j) : Mg (D.del (.int .i64 k)) n f' := by
  refine ⟨h.tidy.del _, fun j => ?_, fun j q hj z => ?_, fun kl hh => ?_, ?_⟩
  · rw [hf]
    by_cases e : j = k
    · subst e; rw [if_pos rfl, has_del_same]; rfl
    · rw [if_neg e, has_del_other (lit_ne e)]; exact h.has j
  · rw [hf] at hj
    by_cases e : j = k
    · rw [if_pos e] at hj; cases hj
    · rw [if_neg e] at hj; rw [atKey_del_other (lit_ne e)]; exact h.at' j q hj z
  · by_cases e : kl = .int .i64 k
    · exact ⟨k, e⟩
    · rw [has_del_other e] at hh; exact h.key kl hh
  · have h1 := size_del (k := .int .i64 k) h.tidy
    rw [h.size, h.has, hk] at h1
    simp at h1
    omega

/-- Block b is a map that says this. -/
def MP (w : World) (b n : Nat) (f : Int → Option Nat) : Prop := ∃ D, w.ownsMap Try.prog 3 gEl b n D ∧ Mg D n f

theorem own_tight {w : World} {b n m : Nat} {D : DataW Unit} (h : w.ownsMap Try.prog 3 gEl b n D) (hm : Maps.size D ≤ m) : w.ownsMap Try.prog 3 gEl b m D := by
  obtain ⟨es, clock, hb, F, _, rfl⟩ := h
  refine ⟨es, clock, hb, F, ?_, rfl⟩
  simpa [Maps.size, length_sorted] using hm

theorem mp_made (w : World) : MP (w.alloc (.map #[] 0)) w.heap.size 0 (fun _ => none) := ⟨_, World.ownsMap_made w _ _ _, mg_nil⟩

theorem law3 : Keyed Try.prog 3 := int_keyed Try.underlying3
theorem key3 {k : Int} (hk : I64 k) : keyOf Try.prog 3 (.int .i64 k) = some (.int .i64 k) := keyOf_int_mk Try.underlying3 (by
  obtain ⟨hk1, hk2⟩ := hk
  have h1 : IntKind.i64.min = -9223372036854775808 := rfl
  have h2 : IntKind.i64.max = 9223372036854775807 := rfl
  simp only [Lit.wf, h1, h2, Bool.and_eq_true, decide_eq_true_eq]
  omega)
theorem zeroP (w : World) : (zeroValue 79).run Try.prog w = .ok (.pointer none) w := Try.zeroValue79 w

section
variable {w : World} {b n : Nat} {f : Int → Option Nat}
theorem MP.lt (h : MP w b n f) : b < w.heap.size := by obtain ⟨D, h, _⟩ := h; exact h.lt
theorem MP.keep {S : Nat → Prop} {w' : World} (h : MP w b n f) (k : Fr S w w') (hs : ¬ S b) : MP w' b n f := by
  have hl := h.lt
  obtain ⟨D, ⟨es, clock, hb, F, hn, hD⟩, hM⟩ := h
  exact ⟨D, ⟨es, clock, (k.block b hl hs).trans hb, F, hn, hD⟩, hM⟩
theorem MP.congr {f' : Int → Option Nat} (h : MP w b n f) (e : ∀ k, f k = f' k) : MP w b n f' := by
  rw [← funext e]; exact h
/-- It is no block of cells. -/
theorem MP.ne {c : Nat} {cs : Array Value} {t : TypeId} (h : MP w b n f) (r : Row w c cs t) : b ≠ c := by
  rintro rfl
  obtain ⟨D, ⟨es, clock, hb, _⟩, _⟩ := h
  have r' : w.heap[b]? = some (.cells cs t (0, 0)) := r
  rw [hb] at r'
  cases r'

theorem MP.look_none (h : MP w b n f) {k : Int} (hk : I64 k) (hf : f k = none) :
    (Instr.lookup 68 (.map (some b)) (.int .i64 k) true).run Try.prog w = .ok (.tuple #[.pointer none, .bool false]) w := by
  obtain ⟨D, h, M⟩ := h
  obtain ⟨v, ps, hrun, hv⟩ := h.look_ok law3 Try.underlying68 (zeroP w) (show gEl (.pointer none) = some (gd0, []) from rfl) (key3 hk)
  rw [hrun, M.has, hf]
  rw [atKey_of_not_has (by rw [M.has, hf]; rfl)] at hv
  rcases gEl_inv hv with ⟨g, rfl, e⟩ | ⟨rfl, e⟩
  · exact absurd (congrArg Prod.fst e).symm gd_ne
  · rfl
theorem MP.look_some (h : MP w b n f) {k : Int} (hk : I64 k) {g : Nat} (hf : f k = some g) :
    (Instr.lookup 68 (.map (some b)) (.int .i64 k) true).run Try.prog w = .ok (.tuple #[pv g, .bool true]) w := by
  obtain ⟨D, h, M⟩ := h
  obtain ⟨v, ps, hrun, hv⟩ := h.look_ok law3 Try.underlying68 (zeroP w) (show gEl (.pointer none) = some (gd0, []) from rfl) (key3 hk)
  rw [hrun, M.has, hf]
  rw [M.at' k g hf] at hv
  rcases gEl_inv hv with ⟨g', rfl, e⟩ | ⟨rfl, e⟩
  · obtain rfl := gd_inj (congrArg Prod.fst e)
    rfl
  · exact absurd (congrArg Prod.fst e) gd_ne
theorem MP.look0_some (h : MP w b n f) {k : Int} (hk : I64 k) {g : Nat} (hf : f k = some g) :
    (Instr.lookup 68 (.map (some b)) (.int .i64 k) false).run Try.prog w = .ok (pv g) w := by
  obtain ⟨D, h, M⟩ := h
  obtain ⟨v, ps, hrun, hv⟩ := h.lookup law3 Try.underlying68 (zeroP w) (show gEl (.pointer none) = some (gd0, []) from rfl) (key3 hk)
  rw [hrun]
  rw [M.at' k g hf] at hv
  rcases gEl_inv hv with ⟨g', rfl, e⟩ | ⟨rfl, e⟩
  · obtain rfl := gd_inj (congrArg Prod.fst e)
    rfl
  · exact absurd (congrArg Prod.fst e) gd_ne
theorem MP.store (h : MP w b n f) (hn : n ≤ 1024) {k : Int} (hk : I64 k) (hf : f k = none) (g : Nat) {f' : Int → Option Nat} (hf' : ∀ j, f' j = if k = j then some g else f j) :
    ∃ w', (Instr.mapUpdate 68 (.map (some b)) (.int .i64 k) (pv g)).run Try.prog w = .ok () w' ∧ MP w' b (n + 1) f' ∧ Fr (at' b) w w' := by
  obtain ⟨D, h, M⟩ := h
  obtain ⟨w', hrun, h', ht⟩ := h.store law3 Try.underlying68 (by simp only [maxLen]; omega) (key3 hk) (gEl_mk g)
  have M' := mg_put M hf g hf'
  exact ⟨w', hrun, ⟨_, own_tight h' (by rw [M'.size]; omega), M'⟩, fr_map ht.grown⟩
theorem MP.drop (h : MP w b (n + 1) f) {k : Int} (hk : I64 k) {y : Nat} (hf : f k = some y) {f' : Int → Option Nat} (hf' : ∀ j, f' j = if j = k then none else f j) :
    ∃ w', (∀ ty, (Builtin.delete_ #[68, 3] ty #[.map (some b), .int .i64 k]).run Try.prog w = .ok (.tuple #[]) w') ∧ MP w' b n f' ∧ Fr (at' b) w w' := by
  obtain ⟨D, h, M⟩ := h
  obtain ⟨w', hrun, h', ht⟩ := h.drop law3 Try.underlying68 (key3 hk) 0
  have M' := mg_del M hf hf'
  refine ⟨w', fun ty => ?_, ⟨_, own_tight h' (by rw [M'.size]; omega), M'⟩, fr_map ht.grown⟩
  rw [← hrun]
  rfl
end


/-! ### the map of badges -/
def iEl (v : Value) : Option (DataW Unit × List MemPlace) := match v with
  | .int .i64 x => some (.lit (.int .i64 x), [])
  | _ => none
theorem iEl_mk (x : Int) : iEl (.int .i64 x) = some (.lit (.int .i64 x), []) := rfl
theorem iEl_inv {v : Value} {y : DataW Unit × List MemPlace} (h : iEl v = some y) : ∃ x : Int, v = .int .i64 x ∧ y = (.lit (.int .i64 x), []) := by
  unfold iEl at h
  split at h
  · rename_i x
    cases h
    exact ⟨x, rfl, rfl⟩
  · cases h
theorem il_inj {x y : Int} (h : (DataW.lit (.int .i64 x) : DataW Unit) = .lit (.int .i64 y)) : x = y := by
  simpa using h
/-- A map's datum says this of its keys. -/
structure Ng (D : DataW Unit) (f : Int → Option Int) : Prop where
  tidy : Tidy D
  has : ∀ k : Int, Maps.has D (.int .i64 k) = (f k).isSome
  at' : ∀ k g, f k = some g → ∀ z, D.atKey (.int .i64 k) z = .lit (.int .i64 g)
theorem ng_nil : Ng (.map []) (fun _ => none) where
  tidy := tidy_empty
  has _ := rfl
  at' _ _ h := by cases h
theorem ng_put {D : DataW Unit} {f f' : Int → Option Int} (h : Ng D f) (k g : Int) (hf : ∀ j, f' j = if j = k then some g else f j) : Ng (D.put (.int .i64 k) (.lit (.int .i64 g))) f' := by
  have hkl : WideAt.IsKeyLit (.int .i64 k) := trivial
  refine ⟨h.tidy.put hkl _, fun j => ?_, fun j q hj z => ?_⟩
  · rw [hf]
    by_cases e : j = k
    · subst e; rw [if_pos rfl, has_put_same h.tidy.isMap hkl]; rfl
    · rw [if_neg e, has_put_other (lit_ne e)]; exact h.has j
  · rw [hf] at hj
    by_cases e : j = k
    · subst e; rw [if_pos rfl] at hj; cases hj; exact atKey_put_same h.tidy.isMap hkl _ _
    · rw [if_neg e] at hj; rw [atKey_put_other (lit_ne e)]; exact h.at' j q hj z
theorem ng_del {D : DataW Unit} {f f' : Int → Option Int} (h : Ng D f) (k : Int) (hf : ∀ j, f' j = if j = k then none else f j) : Ng (D.del (.int .i64 k)) f' := by
  refine ⟨h.tidy.del _, fun j => ?_, fun j q hj z => ?_⟩
  · rw [hf]
    by_cases e : j = k
    · subst e; rw [if_pos rfl, has_del_same]; rfl
    · rw [if_neg e, has_del_other (lit_ne e)]; exact h.has j
  · rw [hf] at hj
    by_cases e : j = k
    · rw [if_pos e] at hj; cases hj
    · rw [if_neg e] at hj; rw [atKey_del_other (lit_ne e)]; exact h.at' j q hj z

/-! ### a thread's block -/
abbrev thA (x : Th) : Array Value := #[.int .i64 x.i, .int .i64 x.st, .int .i64 x.on, .int .i64 x.sd.l, .int .i64 x.sd.b, .int .i64 x.sd.n, .int .u32 x.sd.w0, .int .u32 x.sd.w1, .int .u32 x.sd.w2, .int .u32 x.sd.w3, .bool x.ca, .int .i64 x.ib.l, .int .i64 x.ib.b, .int .i64 x.ib.n, .int .u32 x.ib.w0, .int .u32 x.ib.w1, .int .u32 x.ib.w2, .int .u32 x.ib.w3, .bool x.fu, .int .i64 x.nt]
def ThR (w : World) (b : Nat) (x : Th) : Prop := Row w b (thA x) 89
section
variable {w : World} {b : Nat} {x : Th}
theorem ThR.lt (h : ThR w b x) : b < w.heap.size := Row.lt h
theorem ThR.keep {S : Nat → Prop} {w' : World} (h : ThR w b x) (f : Fr S w w') (hs : ¬ S b) : ThR w' b x := Row.keep h f hs
theorem ThR.frozen (h : ThR w b x) (i : Nat) : w.frozen? ⟨b, i, none⟩ = false := Row.frozen h i
theorem ThR.ci (h : ThR w b x) : w.cell? ⟨b, 0, none⟩ = some (.int .i64 x.i) := Row.cell h 0
theorem ThR.cst (h : ThR w b x) : w.cell? ⟨b, 1, none⟩ = some (.int .i64 x.st) := Row.cell h 1
theorem ThR.con (h : ThR w b x) : w.cell? ⟨b, 2, none⟩ = some (.int .i64 x.on) := Row.cell h 2
theorem ThR.cca (h : ThR w b x) : w.cell? ⟨b, 10, none⟩ = some (.bool x.ca) := Row.cell h 10
theorem ThR.cfu (h : ThR w b x) : w.cell? ⟨b, 18, none⟩ = some (.bool x.fu) := Row.cell h 18
theorem ThR.cnt (h : ThR w b x) : w.cell? ⟨b, 19, none⟩ = some (.int .i64 x.nt) := Row.cell h 19
theorem ThR.csb (h : ThR w b x) : w.cell? ⟨b, 4, none⟩ = some (.int .i64 x.sd.b) := Row.cell h 4
theorem ThR.setN (h : ThR w b x) (n : Int) : ThR (w.setCell ⟨b, 19, none⟩ (.int .i64 n)) b (Go.Proofs.Ytjobdfkfongjaaa.setN n x) := Row.setCell h 19 (.int .i64 n)
theorem ThR.setP (h : ThR w b x) (s o : Int) : ThR ((w.setCell ⟨b, 1, none⟩ (.int .i64 s)).setCell ⟨b, 2, none⟩ (.int .i64 o)) b (Go.Proofs.Ytjobdfkfongjaaa.setP s o x) := Row.setCell (Row.setCell h 1 (.int .i64 s)) 2 (.int .i64 o)
end

end Go.Proofs.Ytjobdfkfongjaaa
