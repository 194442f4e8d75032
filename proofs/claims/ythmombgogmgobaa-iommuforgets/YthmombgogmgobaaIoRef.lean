/-
  The document's controller (package viceroyref10) told as what it holds ('RiAt', 'IsRi'), and the contracts of its Flush, Attach, Detach, Root, Evict over the translation. No statement is proved here.
-/
import Derived.Test.YthmombgogmgobaaIoTake
namespace Go.Proofs.Ythmombgogmgobaa
open Go.RowKit

theorem set5_get (cs : Array Value) (a : Nat) (v0 v1 v2 v3 v4 : Value) (hs : a + 5 ≤ cs.size) :
    (((((cs.setIfInBounds a v0).setIfInBounds (a + 1) v1).setIfInBounds (a + 2) v2).setIfInBounds (a + 3) v3).setIfInBounds (a + 4) v4)[a]? = some v0 ∧
    (((((cs.setIfInBounds a v0).setIfInBounds (a + 1) v1).setIfInBounds (a + 2) v2).setIfInBounds (a + 3) v3).setIfInBounds (a + 4) v4)[a + 1]? = some v1 ∧
    (((((cs.setIfInBounds a v0).setIfInBounds (a + 1) v1).setIfInBounds (a + 2) v2).setIfInBounds (a + 3) v3).setIfInBounds (a + 4) v4)[a + 2]? = some v2 ∧
    (((((cs.setIfInBounds a v0).setIfInBounds (a + 1) v1).setIfInBounds (a + 2) v2).setIfInBounds (a + 3) v3).setIfInBounds (a + 4) v4)[a + 3]? = some v3 ∧
    (((((cs.setIfInBounds a v0).setIfInBounds (a + 1) v1).setIfInBounds (a + 2) v2).setIfInBounds (a + 3) v3).setIfInBounds (a + 4) v4)[a + 4]? = some v4 ∧
    ∀ i, i < a ∨ a + 5 ≤ i → (((((cs.setIfInBounds a v0).setIfInBounds (a + 1) v1).setIfInBounds (a + 2) v2).setIfInBounds (a + 3) v3).setIfInBounds (a + 4) v4)[i]? = cs[i]? := by
  refine ⟨?_, ?_, ?_, ?_, ?_, fun i hi => ?_⟩
  all_goals simp only [Array.getElem?_setIfInBounds, Array.size_setIfInBounds]
  · rw [if_neg (by omega), if_neg (by omega), if_neg (by omega), if_neg (by omega), if_pos trivial, if_pos (by omega)]
  · rw [if_neg (by omega), if_neg (by omega), if_neg (by omega), if_pos trivial, if_pos (by omega)]
  · rw [if_neg (by omega), if_neg (by omega), if_pos trivial, if_pos (by omega)]
  · rw [if_neg (by omega), if_pos trivial, if_pos (by omega)]
  · rw [if_pos trivial, if_pos (by omega)]
  · rw [if_neg (by omega), if_neg (by omega), if_neg (by omega), if_neg (by omega), if_neg (by omega)]

/-- The struct's cells. -/
structure Jv (cs : Array Value) (v : Value) (S : Io) : Prop where
  size : cs.size = 58
  ro : ∀ j, j < 16 → cs[j]? = some (.int .i64 (S.ro j + 1))
  ln : ∀ k, k < 8 → cs[16 + k * 5]? = some (.bool (S.ln k).isSome) ∧ cs[16 + k * 5 + 1]? = some (.int .i64 (lkL (S.ln k)).s) ∧ cs[16 + k * 5 + 2]? = some (.int .i64 (lkL (S.ln k)).p) ∧ cs[16 + k * 5 + 3]? = some (.int .i64 (lkL (S.ln k)).f) ∧ cs[16 + k * 5 + 4]? = some (.int .i64 (lkL (S.ln k)).r)
  v : cs[56]? = some v
  lo : cs[57]? = some (.int .i64 S.lo)

structure RiAt (w : World) (j : Nat) (v : Value) (S : Io) : Prop where
  row : ∃ cs, Row w j cs 80 ∧ Jv cs v S
  re : RcS w v S.re
  n2 : some j ≠ v.ownBlock
  ok : IoOk S
def riO (j : Nat) (v : Value) : Nat → Prop := fun k => k = j ∨ some k = v.ownBlock

def put5r (w : World) (j k : Nat) (on : Bool) (q : Li) : World :=
  ((((w.setCell ⟨j, 16 + k * 5, none⟩ (.bool on)).setCell ⟨j, 16 + k * 5 + 1, none⟩ (.int .i64 q.s)).setCell ⟨j, 16 + k * 5 + 2, none⟩ (.int .i64 q.p)).setCell ⟨j, 16 + k * 5 + 3, none⟩ (.int .i64 q.f)).setCell ⟨j, 16 + k * 5 + 4, none⟩ (.int .i64 q.r)
theorem fr_put5r (w : World) (j k : Nat) (on : Bool) (q : Li) : Fr (at' j) w (put5r w j k on q) := fr_set w j _ _ (fr_set w j _ _ (fr_set w j _ _ (fr_set w j _ _ (fr_set w j _ _ (Fr.refl _ w)))))

section
variable {w : World} {j : Nat} {v : Value} {S : Io}

theorem RiAt.keep {T : Nat → Prop} {w' : World} (h : RiAt w j v S) (f : Fr T w w') (hs : ∀ k, riO j v k → ¬ T k) : RiAt w' j v S := by
  obtain ⟨⟨cs, hr, hc⟩, h2, h4, h6⟩ := h
  exact ⟨⟨cs, hr.keep f (hs _ (Or.inl rfl)), hc⟩, h2.keep f (fun g hg => hs g (Or.inr hg)), h4, h6⟩
theorem RiAt.keep0 {w' : World} (h : RiAt w j v S) (f : Fr none' w w') : RiAt w' j v S := h.keep f (fun _ _ h => h)
theorem RiAt.alloc (h : RiAt w j v S) (o : Obj) : RiAt (w.alloc o) j v S := h.keep0 ((Fr.refl none' w).alloc o)
theorem RiAt.lt (h : RiAt w j v S) (k : Nat) (hk : riO j v k) : k < w.heap.size := by
  obtain ⟨⟨cs, hr, _⟩, h2, _⟩ := h
  rcases hk with rfl | hk
  · exact hr.lt
  · exact h2.lt k hk
theorem RiAt.frozen (h : RiAt w j v S) (i : Nat) : w.frozen? ⟨j, i, none⟩ = false := by obtain ⟨⟨cs, hr, _⟩, _⟩ := h; exact hr.frozen i
theorem RiAt.cells (h : RiAt w j v S) : w.cell? ⟨j, 56, none⟩ = some v ∧ w.cell? ⟨j, 57, none⟩ = some (.int .i64 S.lo) := by
  obtain ⟨⟨cs, hr, hc⟩, _⟩ := h
  exact ⟨(hr.cell _).trans hc.v, (hr.cell _).trans hc.lo⟩
theorem RiAt.roots (h : RiAt w j v S) (i : Nat) (hi : i < 16) : w.cell? ⟨j, i, none⟩ = some (.int .i64 (S.ro i + 1)) := by
  obtain ⟨⟨cs, hr, hc⟩, _⟩ := h
  exact (hr.cell _).trans (hc.ro i hi)
theorem RiAt.line (h : RiAt w j v S) (k : Nat) (hk : k < 8) : w.cell? ⟨j, 16 + k * 5, none⟩ = some (.bool (S.ln k).isSome) ∧ w.cell? ⟨j, 16 + k * 5 + 1, none⟩ = some (.int .i64 (lkL (S.ln k)).s) ∧ w.cell? ⟨j, 16 + k * 5 + 2, none⟩ = some (.int .i64 (lkL (S.ln k)).p) ∧ w.cell? ⟨j, 16 + k * 5 + 3, none⟩ = some (.int .i64 (lkL (S.ln k)).f) ∧ w.cell? ⟨j, 16 + k * 5 + 4, none⟩ = some (.int .i64 (lkL (S.ln k)).r) := by
  obtain ⟨⟨cs, hr, hc⟩, _⟩ := h
  obtain ⟨a, b, c, d, e⟩ := hc.ln k hk
  exact ⟨(hr.cell _).trans a, (hr.cell _).trans b, (hr.cell _).trans c, (hr.cell _).trans d, (hr.cell _).trans e⟩
theorem RiAt.frozen5 (h : RiAt w j v S) (k : Nat) : w.frozen? ⟨j, 16 + k * 5, none⟩ = false ∧ w.frozen? ⟨j, 16 + k * 5 + 1, none⟩ = false ∧ w.frozen? ⟨j, 16 + k * 5 + 2, none⟩ = false ∧ w.frozen? ⟨j, 16 + k * 5 + 3, none⟩ = false ∧ w.frozen? ⟨j, 16 + k * 5 + 4, none⟩ = false := ⟨h.frozen _, h.frozen _, h.frozen _, h.frozen _, h.frozen _⟩

/-- An entry turned. -/
theorem RiAt.setLine (h : RiAt w j v S) {k : Nat} (hk : k < 8) (o : Option Li) (on : Bool) (q : Li) (ho : on = o.isSome) (hq : q = lkL o) (ok : IoOk { S with ln := ioset S.ln k o }) : RiAt (put5r w j k on q) j v { S with ln := ioset S.ln k o } := by
  subst ho hq
  obtain ⟨⟨cs, hr, hc⟩, h2, h4, h6⟩ := h
  have f := fr_put5r w j k o.isSome (lkL o)
  obtain ⟨g0, g1, g2, g3, g4, g5⟩ := set5_get cs (16 + k * 5) (.bool o.isSome) (.int .i64 (lkL o).s) (.int .i64 (lkL o).p) (.int .i64 (lkL o).f) (.int .i64 (lkL o).r) (by rw [hc.size]; omega)
  refine ⟨⟨_, ((((hr.setCell _ _).setCell _ _).setCell _ _).setCell _ _).setCell _ _, by simpa using hc.size, fun i hi => ?_, fun i hi => ?_, ?_, ?_⟩, h2.keep f (fun g hg e => h4 (by rw [← (e : g = j)]; exact hg)), h4, ok⟩
  · rw [g5 i (by omega)]; exact hc.ro i hi
  · by_cases e : i = k
    · subst e
      simp only [ioset_same]
      exact ⟨g0, g1, g2, g3, g4⟩
    · simp only [ioset_other _ _ e]
      obtain ⟨a, b, c, d, e'⟩ := hc.ln i hi
      exact ⟨(g5 _ (by omega)).trans a, (g5 _ (by omega)).trans b, (g5 _ (by omega)).trans c, (g5 _ (by omega)).trans d, (g5 _ (by omega)).trans e'⟩
  · rw [g5 56 (by omega)]; exact hc.v
  · rw [g5 57 (by omega)]; exact hc.lo
/-- A root turned. -/
theorem RiAt.setRo (h : RiAt w j v S) {k : Nat} (hk : k < 16) {n : Int} (hn : n = -1 ∨ (0 ≤ n ∧ n ≤ 1023)) : RiAt (w.setCell ⟨j, k, none⟩ (.int .i64 (n + 1))) j v { S with ro := ioset S.ro k n } := by
  obtain ⟨⟨cs, hr, hc⟩, h2, h4, h6⟩ := h
  have f : Fr (at' j) w (w.setCell ⟨j, k, none⟩ (.int .i64 (n + 1))) := fr_set w j k _ (Fr.refl _ _)
  refine ⟨⟨_, hr.setCell k _, by simpa using hc.size, fun i hi => ?_, fun i hi => ?_, ?_, ?_⟩, h2.keep f (fun g hg e => h4 (by rw [← (e : g = j)]; exact hg)), h4, h6.root hn k⟩
  · by_cases e : i = k
    · subst e; simp only [ioset_same]; rw [Array.getElem?_setIfInBounds, if_pos rfl, if_pos (by rw [hc.size]; omega)]
    · simp only [ioset_other _ _ e]
      rw [Array.getElem?_setIfInBounds, if_neg (fun e' => e e'.symm)]
      exact hc.ro i hi
  · simp only [Array.getElem?_setIfInBounds]
    rw [if_neg (by omega), if_neg (by omega), if_neg (by omega), if_neg (by omega), if_neg (by omega)]
    exact hc.ln i hi
  · rw [Array.getElem?_setIfInBounds, if_neg (by omega)]; exact hc.v
  · rw [Array.getElem?_setIfInBounds, if_neg (by omega)]; exact hc.lo
theorem RiAt.setLo (h : RiAt w j v S) (n : Int) : RiAt (w.setCell ⟨j, 57, none⟩ (.int .i64 n)) j v { S with lo := n } := by
  obtain ⟨⟨cs, hr, hc⟩, h2, h4, h6⟩ := h
  have f : Fr (at' j) w (w.setCell ⟨j, 57, none⟩ (.int .i64 n)) := fr_set w j 57 _ (Fr.refl _ _)
  refine ⟨⟨_, hr.setCell 57 _, by simpa using hc.size, fun i hi => ?_, fun i hi => ?_, ?_, ?_⟩, h2.keep f (fun g hg e => h4 (by rw [← (e : g = j)]; exact hg)), h4, ⟨h6.ln, h6.ro, h6.fr, h6.re⟩⟩
  · rw [Array.getElem?_setIfInBounds, if_neg (by omega)]; exact hc.ro i hi
  · simp only [Array.getElem?_setIfInBounds]
    rw [if_neg (by omega), if_neg (by omega), if_neg (by omega), if_neg (by omega), if_neg (by omega)]
    exact hc.ln i hi
  · rw [Array.getElem?_setIfInBounds, if_neg (by omega)]; exact hc.v
  · simp [hc.size]
theorem RiAt.setRe (h : RiAt w j v S) {w1 : World} {v' : Value} {l : List Rc} (f1 : Fr (fun k => some k = v.ownBlock) w w1) (hv : RcS w1 v' l) (hl : l.length ≤ 8) (n2 : some j ≠ v'.ownBlock) : RiAt (w1.setCell ⟨j, 56, none⟩ v') j v' { S with re := l } := by
  obtain ⟨⟨cs, hr, hc⟩, h2, h4, h6⟩ := h
  have f : Fr (at' j) w1 (w1.setCell ⟨j, 56, none⟩ v') := fr_set w1 j 56 _ (Fr.refl _ _)
  refine ⟨⟨_, (hr.keep f1 h4).setCell 56 _, by simpa using hc.size, fun i hi => ?_, fun i hi => ?_, ?_, ?_⟩, hv.keep f (fun g hg e => n2 (by rw [← (e : g = j)]; exact hg)), n2, ⟨h6.ln, h6.ro, h6.fr, hl⟩⟩
  · rw [Array.getElem?_setIfInBounds, if_neg (by omega)]; exact hc.ro i hi
  · simp only [Array.getElem?_setIfInBounds]
    rw [if_neg (by omega), if_neg (by omega), if_neg (by omega), if_neg (by omega), if_neg (by omega)]
    exact hc.ln i hi
  · simp [hc.size]
  · rw [Array.getElem?_setIfInBounds, if_neg (by omega)]; exact hc.lo
end

/-- The document's controller whose blocks are just O. -/
def IsRi (w : World) (j : Nat) (O : Nat → Prop) (S : Io) : Prop := ∃ v, RiAt w j v S ∧ O = riO j v
theorem IsRi.keep {T : Nat → Prop} {w w' : World} {b : Nat} {O : Nat → Prop} {S : Io} (h : IsRi w b O S) (f : Fr T w w') (hs : ∀ k, O k → ¬ T k) : IsRi w' b O S := by
  obtain ⟨v, h, rfl⟩ := h
  exact ⟨v, h.keep f hs, rfl⟩
theorem IsRi.keep0 {w w' : World} {b : Nat} {O : Nat → Prop} {S : Io} (h : IsRi w b O S) (f : Fr none' w w') : IsRi w' b O S := h.keep f (fun _ _ h => h)
theorem IsRi.lt {w : World} {b : Nat} {O : Nat → Prop} {S : Io} (h : IsRi w b O S) (k : Nat) (hk : O k) : k < w.heap.size := by
  obtain ⟨v, h, rfl⟩ := h
  exact h.lt k hk
theorem IsRi.ok {w : World} {b : Nat} {O : Nat → Prop} {S : Io} (h : IsRi w b O S) : IoOk S := by
  obtain ⟨v, h, rfl⟩ := h
  exact h.ok
def ChgR (w : World) (b : Nat) (O : Nat → Prop) (S : Io) (w' : World) : Prop := Fr O w w' ∧ ∃ O', IsRi w' b O' S ∧ ∀ k, O' k → O k ∨ w.heap.size ≤ k
theorem ChgR.same {w w' : World} {b : Nat} {O : Nat → Prop} {S : Io} (h : IsRi w b O S) (f : Fr none' w w') : ChgR w b O S w' := ⟨f.mono (fun _ _ h => h.elim), O, h.keep0 f, fun _ h => Or.inl h⟩
theorem ChgR.at {w w' : World} {b : Nat} {v : Value} {S : Io} (f : Fr (riO b v) w w') (h : RiAt w' b v S) : ChgR w b (riO b v) S w' := ⟨f, _, ⟨v, h, rfl⟩, fun _ h => Or.inl h⟩

/-! ### calls -/
set_option maxHeartbeats 400000 in
theorem ris_any (s : Int) (w : World) : Calls Try.prog 58 #[.int .i64 s] w fun e w' => e = .returned (.bool (isS s)) ∧ w' = w := by
  have e16 : decide (s < 16) = decide (s ≤ 15) := by rw [decide_eq_decide]; omega
  unfold isS
  rw [← e16]
  clear e16
  cases h1 : decide (0 ≤ s) with
  | false =>
    go_enter Try.func58, Try.ntmps58
    go_wp2_with fail
    go_ret
    exact ⟨rfl, rfl⟩
  | true =>
    go_enter Try.func58, Try.ntmps58
    go_wp2_with fail
    go_ret
    exact ⟨rfl, rfl⟩

/-- What goes: of a stream all, or a page. -/
def goR (s p : Int) (all : Bool) (l : Li) : Bool := l.s == s && (all || l.p == p)
def ropart (g : Li → Bool) (f : Nat → Option Li) (n : Nat) : Nat → Option Li := fun k => if k < n then iowipe g f k else f k
theorem ropart_all {g : Li → Bool} {f : Nat → Option Li} (h : LnOk f) : ropart g f 8 = iowipe g f := funext fun k => by
  unfold ropart
  split
  · rfl
  · unfold iowipe; rw [h k (by omega)]; rfl
theorem ropart_zero (g : Li → Bool) (f : Nat → Option Li) : ropart g f 0 = f := funext fun k => by unfold ropart; rw [if_neg (by omega)]
theorem ropart_at (g : Li → Bool) (f : Nat → Option Li) (n : Nat) : ropart g f n n = f n := by unfold ropart; rw [if_neg (by omega)]
theorem ropart_stays {g : Li → Bool} {f : Nat → Option Li} {n : Nat} (h : ohit g (f n) = false) : ropart g f (n + 1) = ropart g f n := funext fun k => by
  unfold ropart
  by_cases e : k = n
  · subst e; rw [if_pos (by omega), if_neg (by omega)]; unfold iowipe; rw [h]; rfl
  · by_cases e2 : k < n
    · rw [if_pos (by omega), if_pos e2]
    · rw [if_neg (by omega), if_neg e2]
theorem ropart_goes {g : Li → Bool} {f : Nat → Option Li} {n : Nat} (h : ohit g (f n) = true) : ropart g f (n + 1) = ioset (ropart g f n) n none := funext fun k => by
  by_cases e : k = n
  · subst e; rw [ioset_same]; unfold ropart iowipe; rw [if_pos (by omega), if_pos h]
  · rw [ioset_other _ _ e]
    unfold ropart
    by_cases e2 : k < n
    · rw [if_pos (by omega), if_pos e2]
    · rw [if_neg (by omega), if_neg e2]
theorem IoOk.part {S : Io} (h : IoOk S) (g : Li → Bool) (n : Nat) : IoOk { S with ln := ropart g S.ln n } := ⟨fun k hk => by
    show ropart g S.ln n k = none
    unfold ropart
    split
    · exact h.ln.wipe g k hk
    · exact h.ln k hk, h.ro, fun k l e => by
    have e' : ropart g S.ln n k = some l := e
    unfold ropart at e'
    split at e'
    · unfold iowipe at e'
      split at e'
      · cases e'
      · exact h.fr k l e'
    · exact h.fr k l e', h.re⟩

set_option maxHeartbeats 2000000 in
set_option maxRecDepth 100000 in
theorem rflush_at (w : World) (j : Nat) (v : Value) (S : Io) (s p : Int) (all : Bool) (h : RiAt w j v S) :
    Calls Try.prog 34 #[.pointer (some ⟨j, 0, none⟩), .int .i64 s, .int .i64 p, .bool all] w fun e w' => e = .returned (.int .i64 ((iocnt (goR s p all) S.ln 8 : Nat) : Int)) ∧ Fr (at' j) w w' ∧ RiAt w' j v (flushS S (goR s p all)) := by
  have HOK : Hid (IoOk S) := h.ok
  go_enter Try.func34, Try.ntmps34
  go_wp2_with fail
  go_loopw [9, 10] (fun n i wr => ∃ k x : Nat, k ≤ 8 ∧ i = .int .i64 k ∧ x = iocnt (goR s p all) S.ln k ∧ n = .int .i64 (x : Int) ∧ Fr (at' j) w wr ∧ RiAt wr j v { S with ln := ropart (goR s p all) S.ln k }) (fun _ i _ => 8 - (intOf i).toNat)
  case atStart => exact ⟨0, 0, by omega, rfl, rfl, rfl, Fr.refl _ _, by rw [ropart_zero]; exact h⟩
  case round =>
    clear h
    obtain ⟨k, x, hk, rfl, hx, rfl, fk, hT⟩ := hrel
    have hx8 : x ≤ 8 := by rw [hx]; exact Nat.le_trans (iocnt_le _ _ _) hk
    have HX : Hid (x = iocnt (goR s p all) S.ln k) := hx
    clear hx
    by_cases hlt : k < 8
    · obtain ⟨c0, c1, c2, c3, c4⟩ := hT.line k hlt
      simp only [ropart_at] at c0 c1 c2 c3 c4
      have i1 : 0 ≤ (k : Int) ∧ (k : Int) < 8 := by omega
      obtain ⟨q, hq⟩ : ∃ q, q = lkL (S.ln k) := ⟨_, rfl⟩
      obtain ⟨on, hon⟩ : ∃ on, on = (S.ln k).isSome := ⟨_, rfl⟩
      rw [← hq] at c1 c2 c3 c4
      rw [← hon] at c0
      have hoh : ohit (goR s p all) (S.ln k) = (on && (q.s == s && (all || q.p == p))) := by rw [hq, hon]; cases S.ln k <;> rfl
      have HS : Hid (q = lkL (S.ln k) ∧ on = (S.ln k).isSome) := ⟨hq, hon⟩
      clear hq hon
      have f1 := fk.alloc (.cells #[.bool on, .int .i64 q.s, .int .i64 q.p, .int .i64 q.f, .int .i64 q.r] 77)
      have h1 := hT.alloc (.cells #[.bool on, .int .i64 q.s, .int .i64 q.p, .int .i64 q.f, .int .i64 q.r] 77)
      cases hh : ohit (goR s p all) (S.ln k) with
      | false =>
        rw [hh] at hoh
        have HOH : Hid (false = (on && (q.s == s && (all || q.p == p)))) := hoh
        clear hoh
        have HP : Hid (x = iocnt (goR s p all) S.ln (k + 1)) := (show _ = _ from by simp only [iocnt, hh]; rw [HX.out]; simp)
        have HI : Hid (Fr (at' j) w (wr.alloc (.cells #[.bool on, .int .i64 q.s, .int .i64 q.p, .int .i64 q.f, .int .i64 q.r] 77)) ∧ RiAt (wr.alloc (.cells #[.bool on, .int .i64 q.s, .int .i64 q.p, .int .i64 q.f, .int .i64 q.r] 77)) j v { S with ln := ropart (goR s p all) S.ln (k + 1) }) := ⟨f1, by rw [ropart_stays hh]; exact h1⟩
        clear f1 h1 hh hT fk
        cases t1 : on with
        | false =>
          subst t1
          go_wp2_with fail
          go_roundw
          case rel => exact ⟨k + 1, x, by omega, by go_num, HP.out, rfl, HI.out.1, HI.out.2⟩
          case measure => simp [intOf]; omega
        | true =>
        subst t1
        cases t2 : (q.s == s) with
        | false =>
          go_wp2_with fail
          go_roundw
          case rel => exact ⟨k + 1, x, by omega, by go_num, HP.out, rfl, HI.out.1, HI.out.2⟩
          case measure => simp [intOf]; omega
        | true =>
        cases t3 : all with
        | true => have hoh := HOH.out; rw [t2, t3] at hoh; cases hoh
        | false =>
        subst t3
        cases t4 : (q.p == p) with
        | true => have hoh := HOH.out; rw [t2, t4] at hoh; cases hoh
        | false =>
          go_wp2_with fail
          go_roundw
          case rel => exact ⟨k + 1, x, by omega, by go_num, HP.out, rfl, HI.out.1, HI.out.2⟩
          case measure => simp [intOf]; omega
      | true =>
        rw [hh] at hoh
        have hoh' := hoh.symm
        simp only [Bool.and_eq_true] at hoh'
        obtain ⟨t1, t2, t3⟩ := hoh'
        clear hoh
        subst t1
        have HP : Hid (x + 1 = iocnt (goR s p all) S.ln (k + 1)) := (show _ = _ from by simp only [iocnt, hh]; rw [HX.out]; simp)
        obtain ⟨d0, d1, d2, d3, d4⟩ := h1.line k hlt
        obtain ⟨z0, z1, z2, z3, z4⟩ := h1.frozen5 k
        have HI : Hid (Fr (at' j) w (put5r (wr.alloc (.cells #[.bool true, .int .i64 q.s, .int .i64 q.p, .int .i64 q.f, .int .i64 q.r] 77)) j k false l0) ∧ RiAt (put5r (wr.alloc (.cells #[.bool true, .int .i64 q.s, .int .i64 q.p, .int .i64 q.f, .int .i64 q.r] 77)) j k false l0) j v { S with ln := ropart (goR s p all) S.ln (k + 1) }) := ⟨f1.trans (fr_put5r _ j k false l0), by
          rw [ropart_goes hh]
          have ok' := HOK.out.part (goR s p all) (k + 1)
          rw [ropart_goes hh] at ok'
          exact h1.setLine hlt none false l0 rfl rfl ok'⟩
        clear f1 h1 hh hT fk
        cases t4 : all with
        | true =>
          subst t4
          go_wp2_with fail
          go_roundw
          case rel => exact ⟨k + 1, x + 1, by omega, by go_num, HP.out, by go_num, HI.out.1, HI.out.2⟩
          case measure => simp [intOf]; omega
        | false =>
          subst t4
          have t5 : (q.p == p) = true := by simpa using t3
          go_wp2_with fail
          go_roundw
          case rel => exact ⟨k + 1, x + 1, by omega, by go_num, HP.out, by go_num, HI.out.1, HI.out.2⟩
          case measure => simp [intOf]; omega
    · obtain rfl : k = 8 := by omega
      go_wp2_with fail
      go_ret
      exact ⟨by rw [HX.out]; rfl, fk, by unfold flushS; rw [← ropart_all HOK.out.ln]; exact hT⟩

theorem goR_s (s p : Int) : goR s p true = goS s := funext fun l => by simp [goR, goS]
theorem goR_p (s p : Int) : goR s p false = goP s p := funext fun l => by simp [goR, goP]

theorem rflush_any (w : World) (j : Nat) (O : Nat → Prop) (S : Io) (s p : Int) (all : Bool) (h : IsRi w j O S) :
    Calls Try.prog 34 #[.pointer (some ⟨j, 0, none⟩), .int .i64 s, .int .i64 p, .bool all] w fun e w' => e = .returned (.int .i64 ((iocnt (goR s p all) S.ln 8 : Nat) : Int)) ∧ ChgR w j O (flushS S (goR s p all)) w' := by
  obtain ⟨v, h, rfl⟩ := h
  refine (rflush_at w j v S s p all h).mono ?_
  rintro e w' ⟨rfl, f, h'⟩
  exact ⟨rfl, ChgR.at (f.mono (fun _ _ e => Or.inl e)) h'⟩

set_option maxHeartbeats 1000000 in
theorem rattach_any (w : World) (j : Nat) (O : Nat → Prop) (S : Io) (s n : Int) (h : IsRi w j O S) :
    Calls Try.prog 29 #[.pointer (some ⟨j, 0, none⟩), .int .i64 s, .int .i64 n] w fun e w' => e = .returned (.int .i64 (attE s n)) ∧ ChgR w j O (attS S s n) w' := by
  have h0 := h
  obtain ⟨v, h, rfl⟩ := h
  unfold attE attS
  cases hs : isS s with
  | false =>
    go_enter Try.func29, Try.ntmps29
    go_wp2_with fail
    refine (ris_any _ _).mono ?_
    rintro e w1 ⟨rfl, rfl⟩
    rw [hs]
    go_wp2_with fail
    go_ret
    exact ⟨rfl, ChgR.same h0 (Fr.refl _ _)⟩
  | true =>
    have hb := isS_iff.mp hs
    obtain ⟨k, rfl⟩ := Int.eq_ofNat_of_zero_le hb.1
    have hk : k < 16 := by omega
    cases hf : isF n with
    | false =>
      have hf' := hf
      unfold isF at hf'
      by_cases hn : n < 0
      · have t1 : decide (n < 0) = true := decide_eq_true hn
        go_enter Try.func29, Try.ntmps29
        go_wp2_with fail
        refine (ris_any _ _).mono ?_
        rintro e w1 ⟨rfl, rfl⟩
        rw [hs]
        go_wp2_with fail
        go_ret
        exact ⟨rfl, ChgR.same h0 (Fr.refl _ _)⟩
      · have t1 : decide (n < 0) = false := decide_eq_false hn
        have t2 : decide (1023 < n) = true := decide_eq_true (by simp at hf'; omega)
        clear hf'
        go_enter Try.func29, Try.ntmps29
        go_wp2_with fail
        refine (ris_any _ _).mono ?_
        rintro e w1 ⟨rfl, rfl⟩
        rw [hs]
        go_wp2_with fail
        go_ret
        exact ⟨rfl, ChgR.same h0 (Fr.refl _ _)⟩
    | true =>
      have hn := isF_iff.mp hf
      have t1 : decide (n < 0) = false := decide_eq_false (by omega)
      have t2 : decide (1023 < n) = false := decide_eq_false (by omega)
      have c0 := h.roots k hk
      have z0 := h.frozen k
      have i1 : 0 ≤ (k : Int) ∧ (k : Int) < 16 := by omega
      have h1 := h.setRo hk (Or.inr hn)
      have f1 : Fr (riO j v) w (w.setCell ⟨j, k, none⟩ (.int .i64 (n + 1))) := (fr_set w j k _ (Fr.refl _ _)).mono (fun _ _ e => Or.inl e)
      clear h0 h
      go_enter Try.func29, Try.ntmps29
      go_wp2_with fail
      refine (ris_any _ _).mono ?_
      rintro e w1 ⟨rfl, rfl⟩
      rw [hs]
      go_wp2_with fail
      refine (rflush_at _ _ _ _ _ _ _ h1).mono ?_
      rintro e w2 ⟨rfl, f2, h2⟩
      rw [goR_s] at h2
      go_wp2_with fail
      go_ret
      exact ⟨rfl, ChgR.at (f1.trans (f2.mono (fun _ _ e => Or.inl e))) h2⟩

set_option maxHeartbeats 1000000 in
theorem rdetach_any (w : World) (j : Nat) (O : Nat → Prop) (S : Io) (s : Int) (h : IsRi w j O S) :
    Calls Try.prog 31 #[.pointer (some ⟨j, 0, none⟩), .int .i64 s] w fun e w' => e = .returned (.int .i64 (detE s)) ∧ ChgR w j O (detS S s) w' := by
  have h0 := h
  obtain ⟨v, h, rfl⟩ := h
  unfold detE detS
  cases hs : isS s with
  | false =>
    go_enter Try.func31, Try.ntmps31
    go_wp2_with fail
    refine (ris_any _ _).mono ?_
    rintro e w1 ⟨rfl, rfl⟩
    rw [hs]
    go_wp2_with fail
    go_ret
    exact ⟨rfl, ChgR.same h0 (Fr.refl _ _)⟩
  | true =>
    have hb := isS_iff.mp hs
    obtain ⟨k, rfl⟩ := Int.eq_ofNat_of_zero_le hb.1
    have hk : k < 16 := by omega
    have c0 := h.roots k hk
    have z0 := h.frozen k
    have i1 : 0 ≤ (k : Int) ∧ (k : Int) < 16 := by omega
    have h1 : RiAt (w.setCell ⟨j, k, none⟩ (.int .i64 0)) j v { S with ro := ioset S.ro k (-1) } := h.setRo hk (Or.inl rfl)
    have f1 : Fr (riO j v) w (w.setCell ⟨j, k, none⟩ (.int .i64 0)) := (fr_set w j k _ (Fr.refl _ _)).mono (fun _ _ e => Or.inl e)
    clear h0 h
    go_enter Try.func31, Try.ntmps31
    go_wp2_with fail
    refine (ris_any _ _).mono ?_
    rintro e w1 ⟨rfl, rfl⟩
    rw [hs]
    go_wp2_with fail
    refine (rflush_at _ _ _ _ _ _ _ h1).mono ?_
    rintro e w2 ⟨rfl, f2, h2⟩
    rw [goR_s] at h2
    go_wp2_with fail
    go_ret
    exact ⟨rfl, ChgR.at (f1.trans (f2.mono (fun _ _ e => Or.inl e))) h2⟩

set_option maxHeartbeats 1000000 in
theorem rroot_any (w : World) (j : Nat) (O : Nat → Prop) (S : Io) (s : Int) (h : IsRi w j O S) :
    Calls Try.prog 37 #[.pointer (some ⟨j, 0, none⟩), .int .i64 s] w fun e w' => e = .returned (.int .i64 (rootO S s)) ∧ Fr none' w w' := by
  obtain ⟨v, h, rfl⟩ := h
  unfold rootO
  cases hs : isS s with
  | false =>
    go_enter Try.func37, Try.ntmps37
    go_wp2_with fail
    refine (ris_any _ _).mono ?_
    rintro e w1 ⟨rfl, rfl⟩
    rw [hs]
    go_wp2_with fail
    go_ret
    exact ⟨rfl, Fr.refl _ _⟩
  | true =>
    have hb := isS_iff.mp hs
    obtain ⟨k, rfl⟩ := Int.eq_ofNat_of_zero_le hb.1
    have hk : k < 16 := by omega
    have c0 := h.roots k hk
    have hro := h.ok.ro k
    have i1 : 0 ≤ (k : Int) ∧ (k : Int) < 16 := by omega
    obtain ⟨r, hr⟩ : ∃ r, r = S.ro k := ⟨_, rfl⟩
    rw [← hr] at c0 hro
    have hrb : -1 ≤ r ∧ r ≤ 1023 := by omega
    have HR : Hid (r = S.ro k) := hr
    clear hr hro
    go_enter Try.func37, Try.ntmps37
    go_wp2_with fail
    refine (ris_any _ _).mono ?_
    rintro e w1 ⟨rfl, rfl⟩
    rw [hs]
    go_wp2_with fail
    go_ret
    exact ⟨ret_i64 (by rw [cond_true, Int.toNat_natCast, ← HR.out]), Fr.refl _ _⟩

set_option maxHeartbeats 1000000 in
theorem revict_any (w : World) (j : Nat) (O : Nat → Prop) (S : Io) (n : Int) (h : IsRi w j O S) :
    Calls Try.prog 35 #[.pointer (some ⟨j, 0, none⟩), .int .i64 n] w fun e w' => e = .returned (.int .i64 (evE n)) ∧ ChgR w j O (evS S n) w' := by
  have h0 := h
  have hok := h.ok.ev n
  obtain ⟨v, h, rfl⟩ := h
  unfold evE evS
  unfold evS at hok
  cases hs : isE n with
  | false =>
    have hf' := hs
    unfold isE at hf'
    by_cases hn : n < 0
    · have t1 : decide (n < 0) = true := decide_eq_true hn
      go_enter Try.func35, Try.ntmps35
      go_wp2_with fail
      go_ret
      exact ⟨rfl, ChgR.same h0 (Fr.refl _ _)⟩
    · have t1 : decide (n < 0) = false := decide_eq_false hn
      have t2 : decide (8 ≤ n) = true := decide_eq_true (by simp at hf'; omega)
      clear hf'
      go_enter Try.func35, Try.ntmps35
      go_wp2_with fail
      go_ret
      exact ⟨rfl, ChgR.same h0 (Fr.refl _ _)⟩
  | true =>
    rw [hs] at hok
    have hb := isE_iff.mp hs
    obtain ⟨k, rfl⟩ := Int.eq_ofNat_of_zero_le hb.1
    have hk : k < 8 := by omega
    have t1 : decide ((k : Int) < 0) = false := decide_eq_false (by omega)
    have t2 : decide (8 ≤ (k : Int)) = false := decide_eq_false (by omega)
    have i1 : 0 ≤ (k : Int) ∧ (k : Int) < 8 := by omega
    obtain ⟨d0, d1, d2, d3, d4⟩ := h.line k hk
    obtain ⟨z0, z1, z2, z3, z4⟩ := h.frozen5 k
    have h1 : RiAt (put5r w j k false l0) j v { S with ln := ioset S.ln k none } := h.setLine hk none false l0 rfl rfl hok
    have HI : Hid (ChgR w j (riO j v) { S with ln := ioset S.ln k none } (put5r w j k false l0)) := ChgR.at ((fr_put5r w j k false l0).mono (fun _ _ e => Or.inl e)) h1
    clear h1 hok h0 h
    go_enter Try.func35, Try.ntmps35
    go_wp2_with fail
    go_ret
    exact ⟨rfl, HI.out⟩

end Go.Proofs.Ythmombgogmgobaa
