/-
  The space's own blocks (a struct, a map, a block of slots a node) told as what they hold ('IsP'): laws on reading and writing them. No statement is proved here.
-/
import Derived.Test.YtibdkadojoeopaaCsDefs
import Derived.Test.YtibdkadojoeopaaCapBound
import Derived.Shelf.Abstract
import Derived.Maps.OwnSet
import Derived.Maps.RangeWalk
namespace Go.Proofs.Ytibdkadojoeopaa
open Go.RowKit Go.Maps Go.WideMaps

theorem fr_of_grown {w w' : World} {row : Option Nat} (h : w.grownBy w' row) : Fr (fun k => some k = row) w w' :=
  ⟨h.os, h.tape, h.output, h.size, fun k hk hn => h.block k hk hn⟩
theorem fr_map {w w' : World} {b : Nat} (h : w.grownBy w' (some b)) : Fr (at' b) w w' := (fr_of_grown h).mono (fun k _ e => (Option.some.inj e : k = b))
theorem fr_grown0 {w w' : World} (h : w.grownBy w' none) : Fr none' w w' := (fr_of_grown h).mono (fun k _ e => by cases e)

theorem post_void {fn : Func} {R : Ending → World → Prop} {a : Act} {w : World} (hd : a.defers = []) (hr : fn.results = #[]) (h : ∀ v, R (.returned v) w) : bodyPost Try.prog fn R .normal a w :=
  ⟨hd, .tuple #[], by simp [results, hr], h _⟩

/-! ### slots in a block -/
def capV (c : K) : Array Value := #[.int .i64 (c).k, .int .i64 (c).o, .int .i64 (c).r, .int .i64 (c).b, .int .i64 (c).x, .int .i64 (c).g, .int .i64 (c).n, .bool (c).d]

/-- Block g: n slots. -/
def SlB (w : World) (g n : Nat) (sl : Nat → K) : Prop := ∃ cs, Row w g cs 34 ∧ cs.size = n * 8 ∧ ∀ j, j < n → ∀ i, i < 8 → cs[j * 8 + i]? = (capV (sl j))[i]?

def set8 (w : World) (g o : Nat) (c : K) : World :=
  (((((((w.setCell ⟨g, o, none⟩ (.int .i64 c.k)).setCell ⟨g, o + 1, none⟩ (.int .i64 c.o)).setCell ⟨g, o + 2, none⟩ (.int .i64 c.r)).setCell ⟨g, o + 3, none⟩ (.int .i64 c.b)).setCell ⟨g, o + 4, none⟩ (.int .i64 c.x)).setCell ⟨g, o + 5, none⟩ (.int .i64 c.g)).setCell ⟨g, o + 6, none⟩ (.int .i64 c.n)).setCell ⟨g, o + 7, none⟩ (.bool c.d)

theorem set8_fr {S : Nat → Prop} {w w1 : World} {g o : Nat} {c : K} (h : Fr S w w1) (hb : w.heap.size ≤ g ∨ S g) : Fr S w (set8 w1 g o c) :=
  (((((((h.setCell (p := ⟨g, o, none⟩) hb _).setCell (p := ⟨g, o + 1, none⟩) hb _).setCell (p := ⟨g, o + 2, none⟩) hb _).setCell (p := ⟨g, o + 3, none⟩) hb _).setCell (p := ⟨g, o + 4, none⟩) hb _).setCell (p := ⟨g, o + 5, none⟩) hb _).setCell (p := ⟨g, o + 6, none⟩) hb _).setCell (p := ⟨g, o + 7, none⟩) hb _

section
variable {w : World} {g n : Nat} {sl : Nat → K}
theorem SlB.lt (h : SlB w g n sl) : g < w.heap.size := by obtain ⟨cs, h, _⟩ := h; exact h.lt
theorem SlB.keep {S : Nat → Prop} {w' : World} (h : SlB w g n sl) (f : Fr S w w') (hs : ¬ S g) : SlB w' g n sl := by obtain ⟨cs, h, r⟩ := h; exact ⟨cs, h.keep f hs, r⟩
theorem SlB.frozen (h : SlB w g n sl) (i : Nat) : w.frozen? ⟨g, i, none⟩ = false := by obtain ⟨cs, h, _⟩ := h; exact h.frozen i
theorem SlB.cells (h : SlB w g n sl) (j : Nat) (hj : j < n) :
    w.cell? ⟨g, j * 8, none⟩ = some (.int .i64 (sl j).k) ∧ w.cell? ⟨g, j * 8 + 1, none⟩ = some (.int .i64 (sl j).o) ∧ w.cell? ⟨g, j * 8 + 2, none⟩ = some (.int .i64 (sl j).r) ∧ w.cell? ⟨g, j * 8 + 3, none⟩ = some (.int .i64 (sl j).b) ∧ w.cell? ⟨g, j * 8 + 4, none⟩ = some (.int .i64 (sl j).x) ∧ w.cell? ⟨g, j * 8 + 5, none⟩ = some (.int .i64 (sl j).g) ∧ w.cell? ⟨g, j * 8 + 6, none⟩ = some (.int .i64 (sl j).n) ∧ w.cell? ⟨g, j * 8 + 7, none⟩ = some (.bool (sl j).d) := by
  obtain ⟨cs, hr, _, he⟩ := h
  have q := he j hj
  exact ⟨(hr.cell _).trans (q 0 (by omega)), (hr.cell _).trans (q 1 (by omega)), (hr.cell _).trans (q 2 (by omega)), (hr.cell _).trans (q 3 (by omega)), (hr.cell _).trans (q 4 (by omega)), (hr.cell _).trans (q 5 (by omega)), (hr.cell _).trans (q 6 (by omega)), (hr.cell _).trans (q 7 (by omega))⟩
theorem SlB.set (h : SlB w g n sl) {j : Nat} (hj : j < n) (c : K) : SlB (set8 w g (j * 8) c) g n (updK sl j c) := by
  obtain ⟨cs, hr, hs, he⟩ := h
  refine ⟨_, (((((((hr.setCell _ _).setCell _ _).setCell _ _).setCell _ _).setCell _ _).setCell _ _).setCell _ _).setCell _ _, by simpa using hs, fun i hi r hr' => ?_⟩
  by_cases e : i = j
  · subst e
    rw [updK_same]
    have hlt : i * 8 + 7 < cs.size := by omega
    match r, hr' with
    | 0, _ => simp (disch := omega) [capV]
    | 1, _ => simp (disch := omega) [Array.getElem?_setIfInBounds, capV]; omega
    | 2, _ => simp (disch := omega) [Array.getElem?_setIfInBounds, capV]; omega
    | 3, _ => simp (disch := omega) [Array.getElem?_setIfInBounds, capV]; omega
    | 4, _ => simp (disch := omega) [Array.getElem?_setIfInBounds, capV]; omega
    | 5, _ => simp (disch := omega) [Array.getElem?_setIfInBounds, capV]; omega
    | 6, _ => simp (disch := omega) [Array.getElem?_setIfInBounds, capV]; omega
    | 7, _ => simp (disch := omega) [Array.getElem?_setIfInBounds, capV]; omega
  · rw [updK_other _ _ e, ← he i hi r hr']
    simp (disch := omega) only [Array.getElem?_setIfInBounds, if_neg]
theorem SlB.congr {sl' : Nat → K} (h : SlB w g n sl) (e : ∀ j, j < n → sl j = sl' j) : SlB w g n sl' := by
  obtain ⟨cs, h1, h2, h3⟩ := h
  exact ⟨cs, h1, h2, fun j hj => by rw [← e j hj]; exact h3 j hj⟩
end

theorem info_cap : (Try.prog.info? 34).map (fun i => (i.zero, i.bytes, i.size)) = some (some (.agg #[.int .i64 0, .int .i64 0, .int .i64 0, .int .i64 0, .int .i64 0, .int .i64 0, .int .i64 0, .bool false]), 64, 8) := by kernel_rfl

theorem made8 (n i : Nat) (hi : i < n * 8) : (madeCells #[.int .i64 0, .int .i64 0, .int .i64 0, .int .i64 0, .int .i64 0, .int .i64 0, .int .i64 0, .bool false] (n * 8))[i]? = (#[.int .i64 0, .int .i64 0, .int .i64 0, .int .i64 0, .int .i64 0, .int .i64 0, .int .i64 0, .bool false] : Array Value)[i % 8]? := by
  have h8 : (#[.int .i64 0, .int .i64 0, .int .i64 0, .int .i64 0, .int .i64 0, .int .i64 0, .int .i64 0, .bool false] : Array Value).size = 8 := rfl
  have hr : i % 8 < 8 := by omega
  unfold madeCells
  rw [Array.getElem?_map, Array.getElem?_range, if_pos hi, Option.map_some, h8]
  rw [Array.getElem?_eq_getElem (by rw [h8]; exact hr), getElem!_pos _ _ (by rw [h8]; exact hr)]

/-- New slots, all empty. -/
theorem make_slots (n : Nat) (hn : n ≤ 16) : ∃ zs : Array Value, (∀ w : World, SlB (w.alloc (.cells zs 34)) w.heap.size n (fun _ => K0)) ∧ ∀ w : World, (Instr.makeSlice 67 (.int .i64 (n : Int)) (.int .i64 (n : Int))).run Try.prog w = .ok (.slice (some ⟨w.heap.size, 0, none⟩) n n) (w.alloc (.cells zs 34)) := by
  have hi := info_cap
  cases hq : Try.prog.info? 34 with
  | none => simp [hq] at hi
  | some i =>
    rw [hq] at hi
    simp only [Option.map_some, Option.some.injEq, Prod.mk.injEq] at hi
    obtain ⟨hz, hb, hs⟩ := hi
    refine ⟨madeCells #[.int .i64 0, .int .i64 0, .int .i64 0, .int .i64 0, .int .i64 0, .int .i64 0, .int .i64 0, .bool false] (n * 8), fun w => ⟨_, row_alloc w _ _, by rw [size_madeCells], fun j hj r hr => ?_⟩, fun w => ?_⟩
    · rw [made8 n _ (by omega), show (j * 8 + r) % 8 = r by omega]
      rfl
    · have := run_make (P := Try.prog) w 67 34 i _ Try.underlying67 hq hz .i64 .i64 n n (by omega) (by omega) (by rw [hb]; omega) (by omega)
      rw [this, hs]
      rfl

/-! ### the map of nodes -/
def gd (x : Int) (g : Nat) : DataW Unit := .agg [.lit (.int .i64 x), .lit (.int .i64 g)]
def gd0 : DataW Unit := .agg []
def nodeV (x g : Nat) : Value := .agg #[.int .i64 (x : Int), .slice (some ⟨g, 0, none⟩) (2 ^ x) (2 ^ x)]
def gCs (l : List Value) : Option (DataW Unit × List MemPlace) := match l with
  | [.int .i64 p, .slice (some ⟨g, 0, none⟩) n m] => if 0 ≤ p ∧ n = 2 ^ p.toNat ∧ m = 2 ^ p.toNat then some (gd p g, []) else none
  | [.int .i64 0, .slice none 0 0] => some (gd0, [])
  | _ => none
def gEl (v : Value) : Option (DataW Unit × List MemPlace) := match v with
  | .agg cs => gCs cs.toList
  | _ => none
theorem gEl_mk (x g : Nat) : gEl (nodeV x g) = some (gd x g, []) := by
  show (if (0 : Int) ≤ (x : Int) ∧ 2 ^ x = 2 ^ (x : Int).toNat ∧ 2 ^ x = 2 ^ (x : Int).toNat then some (gd x g, []) else none) = some (gd x g, ([] : List MemPlace))
  rw [if_pos ⟨by omega, by simp, by simp⟩]
theorem gEl_zero : gEl (.agg #[.int .i64 0, .slice none 0 0]) = some (gd0, []) := rfl
theorem gEl_inv {v : Value} {y : DataW Unit × List MemPlace} (h : gEl v = some y) : (∃ x g : Nat, v = nodeV x g ∧ y = (gd x g, [])) ∨ (v = .agg #[.int .i64 0, .slice none 0 0] ∧ y = (gd0, [])) := by
  unfold gEl at h
  split at h
  · rename_i cs
    unfold gCs at h
    split at h
    · rename_i p g n m e
      split at h
      · rename_i hh
        obtain ⟨h0, rfl, rfl⟩ := hh
        cases h
        obtain ⟨x, rfl⟩ := Int.eq_ofNat_of_zero_le h0
        refine Or.inl ⟨x, g, ?_, rfl⟩
        rw [show cs = #[.int .i64 (x : Int), .slice (some ⟨g, 0, none⟩) (2 ^ (x : Int).toNat) (2 ^ (x : Int).toNat)] from by rw [← e]]
        rfl
      · cases h
    · rename_i e
      cases h
      exact Or.inr ⟨by rw [show cs = #[.int .i64 0, .slice none 0 0] from by rw [← e]], rfl⟩
    · cases h
  · cases h
theorem gd_inj {p q : Int} {l m : Nat} (h : gd p l = gd q m) : p = q ∧ l = m := by
  simp only [gd, DataW.agg.injEq, List.cons.injEq, DataW.lit.injEq, Lit.int.injEq, true_and, and_true] at h
  omega
theorem gd_ne {p : Int} {l : Nat} : gd p l ≠ gd0 := by simp [gd, gd0]

/-- A map's datum says this of its keys: radix and block. -/
structure Mg (D : DataW Unit) (n : Nat) (f : Int → Option (Nat × Nat)) : Prop where
  tidy : Tidy D
  has : ∀ k : Int, Maps.has D (.int .i64 k) = (f k).isSome
  at' : ∀ (k : Int) p l, f k = some (p, l) → ∀ z, D.atKey (.int .i64 k) z = gd p l
  key : ∀ kl, Maps.has D kl = true → ∃ k : Int, kl = .int .i64 k
  size : Maps.size D = n

theorem mg_nil : Mg (.map []) 0 (fun _ => none) where
  tidy := tidy_empty
  has _ := rfl
  at' _ _ _ h := by cases h
  key kl h := by rw [has_eq] at h; cases h
  size := rfl

theorem lit_ne {a b : Int} (h : a ≠ b) : (Lit.int .i64 a) ≠ .int .i64 b := by simpa using h

theorem mg_put {D : DataW Unit} {n : Nat} {f f' : Int → Option (Nat × Nat)} (h : Mg D n f) {k : Int} (hk : f k = none) (x g : Nat) (hf : ∀ j, f' j = if k = j then some (x, g) else f j) : Mg (D.put (.int .i64 k) (gd x g)) (n + 1) f' := by
  have hkl : WideAt.IsKeyLit (.int .i64 k) := trivial
  refine ⟨h.tidy.put hkl _, fun j => ?_, fun j q m hj z => ?_, fun kl hh => ?_, ?_⟩
  · rw [hf]
    by_cases e : k = j
    · subst e; rw [if_pos rfl, has_put_same h.tidy.isMap hkl]; rfl
    · rw [if_neg e, has_put_other (lit_ne (fun e' => e e'.symm))]; exact h.has j
  · rw [hf] at hj
    by_cases e : k = j
    · subst e; rw [if_pos rfl] at hj; cases hj; exact atKey_put_same h.tidy.isMap hkl _ _
    · rw [if_neg e] at hj; rw [atKey_put_other (lit_ne (fun e' => e e'.symm))]; exact h.at' j q m hj z
  · by_cases e : kl = .int .i64 k
    · exact ⟨k, e⟩
    · rw [has_put_other e] at hh; exact h.key kl hh
  · rw [size_put h.tidy, h.size, h.has, hk]; rfl

theorem mg_del {D : DataW Unit} {n : Nat} {f f' : Int → Option (Nat × Nat)} (h : Mg D (n + 1) f) {k : Int} {y : Nat × Nat} (hk : f k = some y) (hf : ∀ j, f' j = if j = k then none else f j) : Mg (D.del (.int .i64 k)) n f' := by
  refine ⟨h.tidy.del _, fun j => ?_, fun j q m hj z => ?_, fun kl hh => ?_, ?_⟩
  · rw [hf]
    by_cases e : j = k
    · subst e; rw [if_pos rfl, has_del_same]; rfl
    · rw [if_neg e, has_del_other (lit_ne e)]; exact h.has j
  · rw [hf] at hj
    by_cases e : j = k
    · rw [if_pos e] at hj; cases hj
    · rw [if_neg e] at hj; rw [atKey_del_other (lit_ne e)]; exact h.at' j q m hj z
  · by_cases e : kl = .int .i64 k
    · exact ⟨k, e⟩
    · rw [has_del_other e] at hh; exact h.key kl hh
  · have h1 := size_del (k := .int .i64 k) h.tidy
    rw [h.size, h.has, hk] at h1
    simp at h1
    omega

/-- Block b is a map that says this. -/
def MP (w : World) (b n : Nat) (f : Int → Option (Nat × Nat)) : Prop := ∃ D, w.ownsMap Try.prog 3 gEl b n D ∧ Mg D n f

theorem own_tight {w : World} {b n m : Nat} {D : DataW Unit} (h : w.ownsMap Try.prog 3 gEl b n D) (hm : Maps.size D ≤ m) : w.ownsMap Try.prog 3 gEl b m D := by
  obtain ⟨es, clock, hb, F, _, rfl⟩ := h
  refine ⟨es, clock, hb, F, ?_, rfl⟩
  simpa [Maps.size, length_sorted] using hm

theorem mp_made (w : World) : MP (w.alloc (.map #[] 0)) w.heap.size 0 (fun _ => none) := ⟨_, World.ownsMap_made w _ _ _, mg_nil⟩

theorem law3 : Keyed Try.prog 3 := int_keyed Try.underlying3
theorem key3 {k : Int} (hk : I64 k) : keyOf Try.prog 3 (.int .i64 k) = some (.int .i64 k) := keyOf_int_mk Try.underlying3 (by
  obtain ⟨hk1, hk2⟩ := hk
  have h1 : IntKind.i64.min = -9223372036854775808 := rfl
  have h2 : IntKind.i64.max = 9223372036854775807 := rfl
  simp only [Lit.wf, h1, h2, Bool.and_eq_true, decide_eq_true_eq]
  omega)
theorem zeroN (w : World) : (zeroValue 69).run Try.prog w = .ok (.agg #[.int .i64 0, .slice none 0 0]) w := Try.zeroValue69 w

section
variable {w : World} {b n : Nat} {f : Int → Option (Nat × Nat)}
theorem MP.lt (h : MP w b n f) : b < w.heap.size := by obtain ⟨D, h, _⟩ := h; exact h.lt
theorem MP.keep {S : Nat → Prop} {w' : World} (h : MP w b n f) (k : Fr S w w') (hs : ¬ S b) : MP w' b n f := by
  have hl := h.lt
  obtain ⟨D, ⟨es, clock, hb, F, hn, hD⟩, hM⟩ := h
  exact ⟨D, ⟨es, clock, (k.block b hl hs).trans hb, F, hn, hD⟩, hM⟩
theorem MP.congr {f' : Int → Option (Nat × Nat)} (h : MP w b n f) (e : ∀ k, f k = f' k) : MP w b n f' := by
  rw [← funext e]; exact h

theorem MP.look_none (h : MP w b n f) {k : Int} (hk : I64 k) (hf : f k = none) :
    (Instr.lookup 62 (.map (some b)) (.int .i64 k) true).run Try.prog w = .ok (.tuple #[.agg #[.int .i64 0, .slice none 0 0], .bool false]) w := by
  obtain ⟨D, h, M⟩ := h
  obtain ⟨v, ps, hrun, hv⟩ := h.look_ok law3 Try.underlying62 (zeroN w) gEl_zero (key3 hk)
  rw [hrun, M.has, hf]
  rw [atKey_of_not_has (by rw [M.has, hf]; rfl)] at hv
  rcases gEl_inv hv with ⟨x, g, rfl, e⟩ | ⟨rfl, e⟩
  · exact absurd (congrArg Prod.fst e).symm gd_ne
  · rfl
theorem MP.look_some (h : MP w b n f) {k : Int} (hk : I64 k) {x g : Nat} (hf : f k = some (x, g)) :
    (Instr.lookup 62 (.map (some b)) (.int .i64 k) true).run Try.prog w = .ok (.tuple #[.agg #[.int .i64 (x : Int), .slice (some ⟨g, 0, none⟩) (2 ^ x) (2 ^ x)], .bool true]) w := by
  obtain ⟨D, h, M⟩ := h
  obtain ⟨v, ps, hrun, hv⟩ := h.look_ok law3 Try.underlying62 (zeroN w) gEl_zero (key3 hk)
  rw [hrun, M.has, hf]
  rw [M.at' k x g hf] at hv
  rcases gEl_inv hv with ⟨x', g', rfl, e⟩ | ⟨rfl, e⟩
  · obtain ⟨e1, rfl⟩ := gd_inj (congrArg Prod.fst e)
    obtain rfl : x = x' := by omega
    rfl
  · exact absurd (congrArg Prod.fst e) gd_ne
theorem MP.look0_none (h : MP w b n f) {k : Int} (hk : I64 k) (hf : f k = none) :
    (Instr.lookup 62 (.map (some b)) (.int .i64 k) false).run Try.prog w = .ok (.agg #[.int .i64 0, .slice none 0 0]) w := by
  obtain ⟨D, h, M⟩ := h
  obtain ⟨v, ps, hrun, hv⟩ := h.lookup law3 Try.underlying62 (zeroN w) gEl_zero (key3 hk)
  rw [hrun]
  rw [atKey_of_not_has (by rw [M.has, hf]; rfl)] at hv
  rcases gEl_inv hv with ⟨x, g, rfl, e⟩ | ⟨rfl, e⟩
  · exact absurd (congrArg Prod.fst e).symm gd_ne
  · rfl
theorem MP.look0_some (h : MP w b n f) {k : Int} (hk : I64 k) {x g : Nat} (hf : f k = some (x, g)) :
    (Instr.lookup 62 (.map (some b)) (.int .i64 k) false).run Try.prog w = .ok (.agg #[.int .i64 (x : Int), .slice (some ⟨g, 0, none⟩) (2 ^ x) (2 ^ x)]) w := by
  obtain ⟨D, h, M⟩ := h
  obtain ⟨v, ps, hrun, hv⟩ := h.lookup law3 Try.underlying62 (zeroN w) gEl_zero (key3 hk)
  rw [hrun]
  rw [M.at' k x g hf] at hv
  rcases gEl_inv hv with ⟨x', g', rfl, e⟩ | ⟨rfl, e⟩
  · obtain ⟨e1, rfl⟩ := gd_inj (congrArg Prod.fst e)
    obtain rfl : x = x' := by omega
    rfl
  · exact absurd (congrArg Prod.fst e) gd_ne
theorem MP.store (h : MP w b n f) (hn : n ≤ 1024) {k : Int} (hk : I64 k) (hf : f k = none) (x g : Nat) {f' : Int → Option (Nat × Nat)} (hf' : ∀ j, f' j = if k = j then some (x, g) else f j) :
    ∃ w', (Instr.mapUpdate 62 (.map (some b)) (.int .i64 k) (nodeV x g)).run Try.prog w = .ok () w' ∧ MP w' b (n + 1) f' ∧ Fr (at' b) w w' := by
  obtain ⟨D, h, M⟩ := h
  obtain ⟨w', hrun, h', ht⟩ := h.store law3 Try.underlying62 (by simp only [maxLen]; omega) (key3 hk) (gEl_mk x g)
  have M' := mg_put M hf x g hf'
  exact ⟨w', hrun, ⟨_, own_tight h' (by rw [M'.size]; omega), M'⟩, fr_map ht.grown⟩
theorem MP.drop (h : MP w b (n + 1) f) {k : Int} (hk : I64 k) {y : Nat × Nat} (hf : f k = some y) {f' : Int → Option (Nat × Nat)} (hf' : ∀ j, f' j = if j = k then none else f j) :
    ∃ w', (∀ ty, (Builtin.delete_ #[62, 3] ty #[.map (some b), .int .i64 k]).run Try.prog w = .ok (.tuple #[]) w') ∧ MP w' b n f' ∧ Fr (at' b) w w' := by
  obtain ⟨D, h, M⟩ := h
  obtain ⟨w', hrun, h', ht⟩ := h.drop law3 Try.underlying62 (key3 hk) 0
  have M' := mg_del M hf hf'
  refine ⟨w', fun ty => ?_, ⟨_, own_tight h' (by rw [M'.size]; omega), M'⟩, fr_map ht.grown⟩
  rw [← hrun]
  rfl
end

/-! ### a space -/
/-- Its blocks: the struct, the map, the slots of each node. -/
structure Pb where
  b : Nat
  m : Nat
  B : Nat → Nat
def Pb.s (p : Pb) (L : List Nd) : Nat → Prop := fun k => k = p.b ∨ k = p.m ∨ ∃ n ∈ L, k = p.B n.id
def mapF (p : Pb) (L : List Nd) : Int → Option (Nat × Nat) := fun k => (fnd L k).map fun n => (n.rx, p.B n.id)

structure IsP (w : World) (p : Pb) (L : List Nd) : Prop where
  row : Row w p.b #[.map (some p.m)] 64
  map : MP w p.m L.length (mapF p L)
  sl : ∀ n ∈ L, SlB w (p.B n.id) (2 ^ n.rx) n.sl
  inj : ∀ n ∈ L, ∀ n' ∈ L, p.B n.id = p.B n'.id → n.id = n'.id
  ne : p.b ≠ p.m
  ns : ∀ n ∈ L, p.B n.id ≠ p.b ∧ p.B n.id ≠ p.m
  good : GoodL L

section
variable {w : World} {p : Pb} {L : List Nd}
theorem IsP.keep {T : Nat → Prop} {w' : World} (h : IsP w p L) (f : Fr T w w') (hs : ∀ k, p.s L k → ¬ T k) : IsP w' p L :=
  ⟨h.row.keep f (hs _ (Or.inl rfl)), h.map.keep f (hs _ (Or.inr (Or.inl rfl))), fun n hn => (h.sl n hn).keep f (hs _ (Or.inr (Or.inr ⟨n, hn, rfl⟩))), h.inj, h.ne, h.ns, h.good⟩
theorem IsP.keep0 {w' : World} (h : IsP w p L) (f : Fr none' w w') : IsP w' p L := h.keep f (fun _ _ h => h)
theorem IsP.lt (h : IsP w p L) (k : Nat) (hk : p.s L k) : k < w.heap.size := by
  rcases hk with rfl | rfl | ⟨n, hn, rfl⟩
  · exact h.row.lt
  · exact h.map.lt
  · exact (h.sl n hn).lt
theorem IsP.cell (h : IsP w p L) : w.cell? ⟨p.b, 0, none⟩ = some (.map (some p.m)) := h.row.cell 0

/-- What a call leaves. -/
def Chg (w : World) (p : Pb) (L : List Nd) (w' : World) (L' : List Nd) : Prop := ∃ p' : Pb, p'.b = p.b ∧ IsP w' p' L' ∧ Fr (p.s L) w w' ∧ ∀ k, p'.s L' k → p.s L k ∨ w.heap.size ≤ k

theorem Chg.same {w' : World} (h : IsP w p L) (f : Fr none' w w') : Chg w p L w' L := ⟨p, rfl, h.keep0 f, f.mono (fun _ _ h => h.elim), fun _ h => Or.inl h⟩

theorem mem_set {a : Rf} {c : K} {m : Nd} (h : m ∈ setN L a c) : ∃ n ∈ L, m.id = n.id ∧ m.rx = n.rx ∧ (((n.id : Int) = a.n ∧ m.sl = updK n.sl a.i.toNat c) ∨ ((n.id : Int) ≠ a.n ∧ m = n)) := by
  obtain ⟨n, hn, rfl⟩ := List.mem_map.mp h
  refine ⟨n, hn, ?_⟩
  split
  · exact ⟨rfl, rfl, Or.inl ⟨by assumption, rfl⟩⟩
  · exact ⟨rfl, rfl, Or.inr ⟨by assumption, rfl⟩⟩

/-- One slot turned. -/
theorem IsP.put (h : IsP w p L) {a : Rf} {n : Nd} (hf : fnd L a.n = some n) {j : Nat} (ha : a.i = (j : Int)) (hj : j < 2 ^ n.rx) {c : K} (hc : rightC c = true) : IsP (set8 w (p.B n.id) (j * 8) c) p (setN L a c) := by
  obtain ⟨hm, hid⟩ := fnd_mem hf
  have f : Fr (at' (p.B n.id)) w (set8 w (p.B n.id) (j * 8) c) := set8_fr (Fr.refl _ _) (Or.inr rfl)
  have nn := h.ns n hm
  refine ⟨h.row.keep f (fun e => nn.1 (Eq.symm e)), ?_, fun m hm' => ?_, fun m hm' m' hm'' e => ?_, h.ne, fun m hm' => ?_, good_set h.good a hc⟩
  · have q := h.map.keep f (fun e => nn.2 (Eq.symm e))
    rw [show (setN L a c).length = L.length by simp [setN]]
    refine q.congr fun k => ?_
    unfold mapF
    rw [fnd_set]
    cases fnd L k with
    | none => rfl
    | some x =>
      simp only [Option.map_some, Option.some.injEq, Prod.mk.injEq]
      split <;> exact ⟨rfl, rfl⟩
  · obtain ⟨x, hx, e1, e2, hc' | hc'⟩ := mem_set hm'
    · have : x = n := by
        have := fnd_of_mem h.good.srt hx
        rw [hc'.1, hf] at this
        exact (Option.some.inj this).symm
      subst this
      rw [e1, e2, hc'.2, ha, Int.toNat_natCast]
      exact (h.sl x hx).set hj c
    · rw [hc'.2]
      exact (h.sl x hx).keep f (fun e => by
        have := h.inj x hx n hm e
        exact hc'.1 (by rw [this, hid]))
  · obtain ⟨x, hx, e1, _⟩ := mem_set hm'
    obtain ⟨y, hy, e2, _⟩ := mem_set hm''
    rw [e1, e2] at e ⊢
    exact h.inj x hx y hy e
  · obtain ⟨x, hx, e1, _⟩ := mem_set hm'
    rw [e1]; exact h.ns x hx

def updB (B : Nat → Nat) (i g : Nat) : Nat → Nat := fun j => if j = i then g else B j

/-- One node more: its slots laid in block g, the map turned. -/
theorem IsP.add {w1 w2 : World} (h : IsP w p L) {n : Nd} (hn : GoodN n) (hf : fnd L n.id = none) {g : Nat} (hg : w.heap.size ≤ g) (f1 : Fr none' w w1) (hs : SlB w1 g (2 ^ n.rx) n.sl) (f2 : Fr (at' p.m) w1 w2)
    (hm : MP w2 p.m (L.length + 1) (fun j => if (n.id : Int) = j then some (n.rx, g) else mapF p L j)) : Chg w p L w2 (ins n L) := by
  have nm : ∀ m ∈ L, m.id ≠ n.id := fun m hm e => fnd_none hf m hm (by rw [e])
  have hB : ∀ m ∈ L, updB p.B n.id g m.id = p.B m.id := fun m hm => by unfold updB; rw [if_neg (nm m hm)]
  have hN : updB p.B n.id g n.id = g := by unfold updB; rw [if_pos rfl]
  have hlt := fun k hk => h.lt k hk
  have h1 := h.keep0 f1
  refine ⟨⟨p.b, p.m, updB p.B n.id g⟩, rfl, ⟨h1.row.keep f2 h.ne, ?_, fun m hm' => ?_, fun m hm' m' hm'' e => ?_, h.ne, fun m hm' => ?_, good_ins h.good hn hf⟩, ?_, fun k hk => ?_⟩
  · rw [len_ins]
    refine hm.congr fun k => ?_
    unfold mapF
    rw [fnd_ins hf]
    by_cases e : (n.id : Int) = k
    · rw [if_pos e, if_pos e, Option.map_some]
      show some (n.rx, g) = some (n.rx, updB p.B n.id g n.id)
      rw [hN]
    · rw [if_neg e, if_neg e]
      cases hk : fnd L k with
      | none => rfl
      | some x =>
        show some (x.rx, p.B x.id) = some (x.rx, updB p.B n.id g x.id)
        rw [hB x (fnd_mem hk).1]
  · show SlB w2 (updB p.B n.id g m.id) _ _
    rcases mem_ins.mp hm' with rfl | hm'
    · rw [hN]
      refine hs.keep f2 (fun e => ?_)
      have e' : g = p.m := e
      have := hlt p.m (Or.inr (Or.inl rfl))
      omega
    · rw [hB m hm']
      exact (h1.sl m hm').keep f2 (fun e => (h.ns m hm').2 e)
  · show m.id = m'.id
    have e' : updB p.B n.id g m.id = updB p.B n.id g m'.id := e
    rcases mem_ins.mp hm' with q1 | q1
    · rcases mem_ins.mp hm'' with q2 | q2
      · rw [q1, q2]
      · rw [q1, hN, hB m' q2] at e'
        have := hlt _ (Or.inr (Or.inr ⟨m', q2, rfl⟩))
        omega
    · rcases mem_ins.mp hm'' with q2 | q2
      · rw [q2, hN, hB m q1] at e'
        have := hlt _ (Or.inr (Or.inr ⟨m, q1, rfl⟩))
        omega
      · rw [hB m q1, hB m' q2] at e'
        exact h.inj m q1 m' q2 e'
  · show updB p.B n.id g m.id ≠ p.b ∧ updB p.B n.id g m.id ≠ p.m
    rcases mem_ins.mp hm' with rfl | hm'
    · rw [hN]
      have a1 := hlt _ (Or.inl rfl)
      have a2 := hlt p.m (Or.inr (Or.inl rfl))
      omega
    · rw [hB m hm']; exact h.ns m hm'
  · exact (f1.mono (fun _ _ h => h.elim)).trans (f2.mono (fun k _ e => Or.inr (Or.inl e)))
  · rcases hk with rfl | rfl | ⟨m, hm', rfl⟩
    · exact Or.inl (Or.inl rfl)
    · exact Or.inl (Or.inr (Or.inl rfl))
    · rcases mem_ins.mp hm' with rfl | hm'
      · right
        show w.heap.size ≤ updB p.B m.id g m.id
        rw [hN]; exact hg
      · left
        exact Or.inr (Or.inr ⟨m, hm', hB m hm'⟩)

theorem len_del {i : Nat} {n : Nd} (g : GoodL L) (h : L[i]? = some n) : L.length = (del L n.id).length + 1 := by
  have hi : i < L.length := by
    rcases Nat.lt_or_ge i L.length with h' | h'
    · exact h'
    · rw [List.getElem?_eq_none h'] at h; cases h
  rw [del_at g h]
  simp
  omega

/-- One node less. -/
theorem IsP.del {w2 : World} (h : IsP w p L) {k : Int} (f2 : Fr (at' p.m) w w2) (hm : MP w2 p.m (del L k).length (fun j => if j = k then none else mapF p L j)) : Chg w p L w2 (del L k) := by
  have hl : ∀ m, m ∈ Go.Proofs.Ytibdkadojoeopaa.del L k → m ∈ L := fun m hm => (mem_del.mp hm).1
  refine ⟨p, rfl, ⟨h.row.keep f2 h.ne, hm.congr fun j => ?_, fun m hm' => (h.sl m (hl m hm')).keep f2 (fun e => (h.ns m (hl m hm')).2 e), fun m hm' m' hm'' e => h.inj m (hl m hm') m' (hl m' hm'') e, h.ne, fun m hm' => h.ns m (hl m hm'), good_del h.good k⟩, f2.mono (fun k _ e => Or.inr (Or.inl e)), fun k hk => ?_⟩
  · unfold mapF
    rw [fnd_del]
    split <;> rfl
  · rcases hk with h1 | h1 | ⟨m, hm', h1⟩
    · exact Or.inl (Or.inl h1)
    · exact Or.inl (Or.inr (Or.inl h1))
    · exact Or.inl (Or.inr (Or.inr ⟨m, hl m hm', h1⟩))
end

end Go.Proofs.Ytibdkadojoeopaa
