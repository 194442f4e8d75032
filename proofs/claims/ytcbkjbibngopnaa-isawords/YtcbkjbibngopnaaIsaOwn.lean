/-
  Short lists of numbers of the call's own, and which registers an instruction reads, as plain lists. No statement is proved here.
-/
import Derived.Test.YtcbkjbibngopnaaIsaSort
import Derived.Laws.AppendOwnNone
namespace Go.Proofs.Ytcbkjbibngopnaa
open Go.RowKit

theorem wpList_append_run {P : Program} {w : World} {ops : Array Oper} {rest : List Oper} {o : Oper} {a : Act} {Q : Exit → Act → World → Prop} (hgd : o.guard = none) (s x : Operand) (t : TypeId)
    (ho : o.op = .call { callee := .builtin .append, args := #[s, x], argTypes := #[t, t] }) (vs vx : Value) (hs : a.eval s = vs) (hx : a.eval x = vx) (v' : Value) (w' : World)
    (hrun : (Builtin.append_ #[t, t] o.type #[vs, vx]).run P w = .ok v' w') (h : wpList P ops Q rest (a.put o.dst v') w') : wpList P ops Q (o :: rest) a w := by
  refine wpList_plain hgd fun K hK => ?_
  unfold Oper.wp
  simp [execOp, ho, resolve, invoke, builtin, hs, hx, hrun, Result.andThen]
  exact hK _ _ h

/-- A slice of the call's own that holds these numbers. -/
def OwnI (w : World) (B : Nat) (v : Value) (L : List Int) : Prop := w.ownsRow B 3 1 v L.length (L.map (Value.int .i64)) ∧ (L = [] → v = .slice none 0 0)

theorem own_nil (w : World) (B : Nat) : OwnI w B (.slice none 0 0) [] := ⟨⟨rfl, Or.inl ⟨rfl, rfl⟩⟩, fun _ => rfl⟩

theorem OwnI.at {w w' : World} {B : Nat} {v : Value} {L : List Int} (h : OwnI w B v L) (hk : ∀ k, some k = v.ownBlock → k < w.heap.size → w'.heap[k]? = w.heap[k]?) : OwnI w' B v L := by
  obtain ⟨⟨hl, h | ⟨g, cap, cur, hv, hb, hg, hc, hm, hs, ht⟩⟩, hn⟩ := h
  · exact ⟨⟨hl, Or.inl h⟩, hn⟩
  · exact ⟨⟨hl, Or.inr ⟨g, cap, cur, hv, hb, (hk g (by rw [hv]; rfl) (Row.lt (show Row w g cur 3 from hg))).trans hg, hc, hm, hs, ht⟩⟩, hn⟩

theorem OwnI.keep {S : Nat → Prop} {w w' : World} {B : Nat} {v : Value} {L : List Int} (h : OwnI w B v L) (f : Fr S w w') (hs : ∀ k, some k = v.ownBlock → ¬ S k) : OwnI w' B v L :=
  h.at fun k hk hl => f.block k hl (hs k hk)
theorem OwnI.keep0 {w w' : World} {B : Nat} {v : Value} {L : List Int} (h : OwnI w B v L) (f : Fr none' w w') : OwnI w' B v L := h.keep f (fun _ _ h => h)
theorem OwnI.mono {w : World} {B B' : Nat} {v : Value} {L : List Int} (h : OwnI w B v L) (hb : B' ≤ B) : OwnI w B' v L := by
  obtain ⟨⟨hl, h | ⟨g, cap, cur, hv, hb', hg, hc, hm, hs, ht⟩⟩, hn⟩ := h
  · exact ⟨⟨hl, Or.inl h⟩, hn⟩
  · exact ⟨⟨hl, Or.inr ⟨g, cap, cur, hv, by omega, hg, hc, hm, hs, ht⟩⟩, hn⟩
theorem OwnI.itset {w : World} {B g p : Nat} {s : ByteArray} {v : Value} {L : List Int} (h : OwnI w B v L) (i : It w g s p) (q : Nat) : OwnI (itSet w g s q) B v L := by
  obtain ⟨⟨hl, h | ⟨g', cap, cur, hv, hb, hg, hc, hm, hs, ht⟩⟩, hn⟩ := h
  · exact ⟨⟨hl, Or.inl h⟩, hn⟩
  · exact ⟨⟨hl, Or.inr ⟨g', cap, cur, hv, hb, Row.itset (show Row w g' cur 3 from hg) i q, hc, hm, hs, ht⟩⟩, hn⟩
theorem OwnI.high {w : World} {B : Nat} {v : Value} {L : List Int} (h : OwnI w B v L) (k : Nat) (hk : some k = v.ownBlock) : B ≤ k := by
  obtain ⟨⟨_, h | ⟨g, cap, cur, hv, hb, _⟩⟩, _⟩ := h
  · rw [h.1] at hk; simp [Value.ownBlock] at hk
  · rw [hv] at hk; simp [Value.ownBlock] at hk; omega
/-- A block of another type is not the slice's. -/
theorem OwnI.apart {w : World} {B b : Nat} {v : Value} {L : List Int} {cs : Array Value} {t : TypeId} (h : OwnI w B v L) (r : Row w b cs t) (ht : t ≠ 3) : some b ≠ v.ownBlock := by
  obtain ⟨⟨hl, h | ⟨g, cap, cur, hv, hb, hg, _⟩⟩, _⟩ := h
  · rw [h.1]; simp [Value.ownBlock]
  · rw [hv]
    intro e
    have e' : b = g := by simpa [Value.ownBlock] using e
    subst e'
    have r' : w.heap[b]? = some (.cells cs t (0, 0)) := r
    rw [hg] at r'
    simp only [Option.some.injEq, Obj.cells.injEq] at r'
    exact ht r'.2.1.symm
theorem OwnI.apart_it {w : World} {B b p : Nat} {v : Value} {L : List Int} {s : ByteArray} (h : OwnI w B v L) (r : It w b s p) : some b ≠ v.ownBlock := by
  obtain ⟨⟨hl, h | ⟨g, cap, cur, hv, hb, hg, _⟩⟩, _⟩ := h
  · rw [h.1]; simp [Value.ownBlock]
  · rw [hv]
    intro e
    have e' : b = g := by simpa [Value.ownBlock] using e
    subst e'
    have r' : w.heap[b]? = some (.stringIter s p) := r
    rw [hg] at r'
    simp at r'

/-- The slice's block told whole. -/
theorem OwnI.row {w : World} {B : Nat} {v : Value} {L : List Int} (h : OwnI w B v L) (hL : L ≠ []) :
    ∃ g cap cur, v = .slice (some ⟨g, 0, none⟩) L.length cap ∧ B ≤ g ∧ Row w g cur 3 ∧ L.length ≤ cap ∧ cap ≤ maxLen ∧ cur.size = cap ∧ ∀ (j : Nat) (x : Int), L[j]? = some x → cur[j]? = some (Value.int .i64 x) := by
  obtain ⟨⟨hl, h | ⟨g, cap, cur, hv, hb, hg, hc, hm, hs, ht⟩⟩, _⟩ := h
  · exact absurd (List.length_eq_zero_iff.1 h.2) hL
  · refine ⟨g, cap, cur, hv, hb, hg, hc, hm, by omega, fun j x hj => ?_⟩
    have : (cur.toList.take (L.length * 1))[j]? = some (Value.int .i64 x) := by rw [ht]; simp [hj]
    rw [List.getElem?_take] at this
    split at this
    · simpa using this
    · simp at this

theorem own_of_row {w : World} {B g cap : Nat} {cur : Array Value} {L : List Int} (hb : B ≤ g) (r : Row w g cur 3) (hc : L.length ≤ cap) (hm : cap ≤ maxLen) (hs : cur.size = cap) (hL : L ≠ []) (hj : ∀ (j : Nat) (x : Int), L[j]? = some x → cur[j]? = some (Value.int .i64 x)) :
    OwnI w B (.slice (some ⟨g, 0, none⟩) L.length cap) L := by
  refine ⟨⟨by simp, Or.inr ⟨g, cap, cur, rfl, hb, r, hc, hm, by omega, ?_⟩⟩, fun h => absurd h hL⟩
  apply List.ext_getElem?
  intro j
  rw [List.getElem?_take, List.getElem?_map]
  by_cases h : j < L.length
  · rw [if_pos (by omega), List.getElem?_eq_getElem h]
    have := hj j L[j] (List.getElem?_eq_getElem h)
    simpa using this
  · rw [if_neg (by omega), List.getElem?_eq_none (by omega)]
    rfl

theorem fr_of_grown {w w' : World} {row : Option Nat} (h : w.grownBy w' row) : Fr (fun k => some k = row) w w' :=
  ⟨h.os, h.tape, h.output, h.size, fun k hk hn => h.block k hk hn⟩

theorem Fr.own {w w1 w2 : World} {v : Value} {L : List Int} (f : Fr none' w w1) (g : Fr (fun q => some q = v.ownBlock) w1 w2) (o : OwnI w1 w.heap.size v L) : Fr none' w w2 :=
  ⟨g.os.trans f.os, g.tape.trans f.tape, g.output.trans f.output, Nat.le_trans f.size g.size, fun i hi hn => (g.block i (Nat.lt_of_lt_of_le hi f.size) (fun e => by have := o.high i e; omega)).trans (f.block i hi hn)⟩

theorem swp_get {cur : Array Value} (h : 2 ≤ cur.size) (u v : Value) : ((cur.setIfInBounds 1 u).setIfInBounds 0 v)[0]? = some v ∧ ((cur.setIfInBounds 1 u).setIfInBounds 0 v)[1]? = some u := by
  constructor
  · rw [Array.getElem?_setIfInBounds_self_of_lt (by simp; omega)]
  · rw [Array.getElem?_setIfInBounds_ne (by omega), Array.getElem?_setIfInBounds_self_of_lt (by omega)]
theorem set_get {cur : Array Value} (u v : Value) (h : cur[0]? = some v) : (cur.setIfInBounds 1 u)[0]? = some v := by
  rw [Array.getElem?_setIfInBounds_ne (by omega), h]

/-- One number more. -/
theorem append_int (w : World) (B : Nat) (a : Addr) (v : Value) (L : List Int) (x : Int) (hb : B ≤ w.heap.size) (ho : OwnI w B v L) (hk : L.length < 1000) (c0 : w.cell? (a.add 0) = some (.int .i64 x)) :
    ∃ v' w', (Builtin.append_ #[34, 34] 34 #[v, .slice (some a) 1 1]).run Try.prog w = .ok v' w' ∧ Fr (fun q => some q = v.ownBlock) w w' ∧ OwnI w' B v' (L ++ [x]) := by
  obtain ⟨ho, hn⟩ := ho
  have hi := info3
  cases hq : Try.prog.info? 3 with
  | none => simp [hq] at hi
  | some i =>
    rw [hq] at hi
    simp only [Option.map_some, Option.some.injEq, Prod.mk.injEq] at hi
    obtain ⟨hz, hs, hby⟩ := hi
    obtain ⟨v', w', h1, h2, h3, _⟩ := run_append_own (P := Try.prog) w B 34 34 3 i _ 1 8 Try.underlying34 hq hz hs hby rfl (by omega) v L.length (L.map (Value.int .i64)) ho a 1 1 [.int .i64 x] rfl
      (fun j u hu => by
        match j, hu with
        | 0, hu => simp at hu; rw [c0, hu]
        | j + 1, hu => simp at hu)
      (fun u hu => by simp at hu; subst hu; simp [Value.oneCell'])
      (by simp only [maxLen]; omega) (by omega) hb
    refine ⟨v', w', h1, fr_of_grown h3, ?_, fun h => by simp at h⟩
    have e1 : (L ++ [x]).length = L.length + 1 := by simp
    have e2 : (L ++ [x]).map (Value.int .i64) = L.map (Value.int .i64) ++ [.int .i64 x] := by simp
    rw [e1, e2]
    exact h2

/-- What a sign adds, and what the first p signs of a form add. -/
def adds (s : Nat) (on : Bool) (a b c : Int) : List Int := if s = 97 then (if on then [a] else []) else if s = 98 then [b] else if s = 99 then [c] else []
def rawP (k : Nat) (on : Bool) (a b c : Int) (p : Nat) : List Int := ((fs k).data.toList.take p).flatMap (fun s => adds s.toNat on a b c)
theorem rawP_succ (k : Nat) (on : Bool) (a b c : Int) (p : Nat) (hp : p < fsz k) : rawP k on a b c (p + 1) = rawP k on a b c p ++ adds (fch k p) on a b c := by
  unfold rawP fch
  rw [List.take_add_one, List.flatMap_append, List.getD_eq_getElem?_getD]
  have : (fs k).data.toList[p]? = some ((fs k).data.toList[p]'hp) := List.getElem?_eq_getElem hp
  rw [this]
  simp
theorem rawP_zero (k : Nat) (on : Bool) (a b c : Int) : rawP k on a b c 0 = [] := rfl
theorem rawP_le (k : Nat) (on : Bool) (a b c : Int) : ∀ p, (rawP k on a b c p).length ≤ p := by
  intro p
  unfold rawP
  rw [List.length_flatMap]
  have : ∀ l : List UInt8, (l.map (fun s => (adds s.toNat on a b c).length)).sum ≤ l.length := by
    intro l
    induction l with
    | nil => simp
    | cons s l ih =>
      have : (adds s.toNat on a b c).length ≤ 1 := by unfold adds; repeat' split
                                                      all_goals simp
      simp
      omega
  exact Nat.le_trans (this _) (List.length_take_le _ _)

/-- Two numbers at most, each once, rising. -/
def sd : List Int → List Int
  | [x, y] => if x = y then [x] else if x < y then [x, y] else [y, x]
  | l => l
/-- The registers that an instruction reads. -/
def readsI (o a b c i : Int) : List Int := if rightI o a b c i then sd (rawP (kf o) (onl o) a b c (fsz (kf o))) else []
/-- The register that it writes. -/
def writesI (o a b c i : Int) : Int := if rightI o a b c i && !onl o && hA (kf o) then a else -1

theorem onl_form {o : Int} (h : onl o = true) : kf o = 3 := by
  unfold onl at h
  simp only [Bool.or_eq_true, beq_iff_eq] at h
  rcases h with (((rfl | rfl) | rfl) | rfl) | rfl <;> rfl

theorem raw_cases (k : Nat) (hk : k < 9) (on : Bool) (h : on = true → k = 3) (a b c : Int) : rawP k on a b c (fsz k) = [] ∨ (∃ x, rawP k on a b c (fsz k) = [x]) ∨ ∃ x y, rawP k on a b c (fsz k) = [x, y] := by
  have : k = 0 ∨ k = 1 ∨ k = 2 ∨ k = 3 ∨ k = 4 ∨ k = 5 ∨ k = 6 ∨ k = 7 ∨ k = 8 := by omega
  cases on
  · rcases this with rfl | rfl | rfl | rfl | rfl | rfl | rfl | rfl | rfl
    · exact Or.inl rfl
    · exact Or.inl rfl
    · exact Or.inr (Or.inr ⟨b, c, rfl⟩)
    · exact Or.inr (Or.inl ⟨b, rfl⟩)
    · exact Or.inl rfl
    · exact Or.inr (Or.inl ⟨b, rfl⟩)
    · exact Or.inr (Or.inl ⟨b, rfl⟩)
    · exact Or.inl rfl
    · exact Or.inl rfl
  · obtain rfl := h rfl
    exact Or.inr (Or.inr ⟨a, b, rfl⟩)

end Go.Proofs.Ytcbkjbibngopnaa
