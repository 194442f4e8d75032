/-
  The document's own controller told as what it holds ('IsRv'): laws on reading and writing it. No statement is proved here.
-/
import Derived.Test.YthkieoedidpkaaaVgBits
import Derived.Test.YthkieoedidpkaaaVgNext
namespace Go.Proofs.Ythkieoedidpkaaa
open Go.RowKit

structure One where
  off : Bool
  pe : Bool
  ac : Bool
  p : Int
  a : Int
  lv : Bool
  fl : Bool

def oneV (o : One) : List Value := [.bool o.off, .bool o.pe, .bool o.ac, .int .i64 o.p, .int .i64 o.a, .bool o.lv, .bool o.fl]
def updT (T : Nat → One) (k : Nat) (o : One) : Nat → One := fun j => if j = k then o else T j
theorem updT_same (T : Nat → One) (k : Nat) (o : One) : updT T k o k = o := by simp [updT]
theorem updT_other (T : Nat → One) {k j : Nat} (o : One) (h : j ≠ k) : updT T k o j = T j := by simp [updT, h]
theorem updT_updT (T : Nat → One) (k : Nat) (o o' : One) : updT (updT T k o) k o' = updT T k o' := by funext j; unfold updT; split <;> rfl

/-- The struct's cells. -/
structure Sr (cs : Array Value) (T : Nat → One) (S : Vg) : Prop where
  size : cs.size = 453
  one : ∀ j r, j < 64 → r < 7 → cs[j * 7 + r]? = (oneV (T j))[r]?
  lrs : cs[448]? = some (.int .i64 S.lrs)
  mask : cs[449]? = some (.int .i64 S.mask)
  inj : cs[450]? = some (.int .i64 S.inj)
  ack : cs[451]? = some (.int .i64 S.ack)
  en : cs[452]? = some (.int .i64 S.en)

def IsRt (w : World) (b : Nat) (T : Nat → One) (S : Vg) : Prop := ∃ cs, Row w b cs 90 ∧ Sr cs T S

/-- What the lines say. -/
structure Rel (T : Nat → One) (S : Vg) : Prop where
  off : ∀ j, j < 64 → S.off j = (T j).off
  pe : ∀ j, j < 64 → S.pe j = if (T j).pe then some ((T j).p, (T j).lv) else none
  ac : ∀ j, j < 64 → S.ac j = if (T j).ac then some ((T j).a, (T j).fl) else none

structure IsRv (w : World) (b : Nat) (S : Vg) : Prop where
  is : ∃ T, IsRt w b T S ∧ Rel T S
  good : Good S

section
variable {w w' : World} {b : Nat} {T : Nat → One} {S : Vg}
theorem IsRt.keep {X : Nat → Prop} (h : IsRt w b T S) (f : Fr X w w') (hs : ¬ X b) : IsRt w' b T S := by obtain ⟨cs, hr, hc⟩ := h; exact ⟨cs, hr.keep f hs, hc⟩
theorem IsRv.keep {X : Nat → Prop} (h : IsRv w b S) (f : Fr X w w') (hs : ¬ X b) : IsRv w' b S := by obtain ⟨⟨T, h1, h2⟩, h3⟩ := h; exact ⟨⟨T, h1.keep f hs, h2⟩, h3⟩
theorem IsRv.keep0 (h : IsRv w b S) (f : Fr none' w w') : IsRv w' b S := h.keep f (fun h => h)
theorem IsRv.lt (h : IsRv w b S) (k : Nat) (hk : at' b k) : k < w.heap.size := by obtain ⟨⟨T, ⟨cs, hr, _⟩, _⟩, _⟩ := h; rw [show k = b from hk]; exact hr.lt
theorem IsRt.frozen (h : IsRt w b T S) (i : Nat) : w.frozen? ⟨b, i, none⟩ = false := by obtain ⟨cs, hr, _⟩ := h; exact hr.frozen i
theorem IsRt.cells (h : IsRt w b T S) {j : Nat} (hj : j < 64) : w.cell? ⟨b, j * 7, none⟩ = some (.bool (T j).off) ∧ w.cell? ⟨b, j * 7 + 1, none⟩ = some (.bool (T j).pe) ∧ w.cell? ⟨b, j * 7 + 2, none⟩ = some (.bool (T j).ac) ∧ w.cell? ⟨b, j * 7 + 3, none⟩ = some (.int .i64 (T j).p) ∧ w.cell? ⟨b, j * 7 + 4, none⟩ = some (.int .i64 (T j).a) ∧ w.cell? ⟨b, j * 7 + 5, none⟩ = some (.bool (T j).lv) ∧ w.cell? ⟨b, j * 7 + 6, none⟩ = some (.bool (T j).fl) := by
  obtain ⟨cs, hr, hc⟩ := h
  have q := fun r hr' => (hr.cell (j * 7 + r)).trans (hc.one j r hj hr')
  exact ⟨q 0 (by omega), q 1 (by omega), q 2 (by omega), q 3 (by omega), q 4 (by omega), q 5 (by omega), q 6 (by omega)⟩
theorem IsRt.nums (h : IsRt w b T S) : w.cell? ⟨b, 448, none⟩ = some (.int .i64 S.lrs) ∧ w.cell? ⟨b, 449, none⟩ = some (.int .i64 S.mask) ∧ w.cell? ⟨b, 450, none⟩ = some (.int .i64 S.inj) ∧ w.cell? ⟨b, 451, none⟩ = some (.int .i64 S.ack) ∧ w.cell? ⟨b, 452, none⟩ = some (.int .i64 S.en) := by
  obtain ⟨cs, hr, hc⟩ := h
  exact ⟨(hr.cell _).trans hc.lrs, (hr.cell _).trans hc.mask, (hr.cell _).trans hc.inj, (hr.cell _).trans hc.ack, (hr.cell _).trans hc.en⟩

/-- One cell of line k turned. -/
theorem IsRt.setOne (h : IsRt w b T S) {k r : Nat} (hk : k < 64) (hr : r < 7) {v : Value} {o : One} (ho : oneV o = (oneV (T k)).set r v) : IsRt (w.setCell ⟨b, k * 7 + r, none⟩ v) b (updT T k o) S := by
  obtain ⟨cs, hw, c⟩ := h
  have hlt : k * 7 + r < cs.size := by rw [c.size]; omega
  have hl : ∀ o : One, (oneV o).length = 7 := fun _ => rfl
  refine ⟨_, hw.setCell _ v, by simpa using c.size, fun j s hj hs => ?_, ?_, ?_, ?_, ?_, ?_⟩
  · by_cases e : j = k
    · subst e
      rw [updT_same, ho, List.getElem?_set, Array.getElem?_setIfInBounds]
      by_cases er : r = s
      · subst er
        simp [hlt, hl, hs]
      · rw [if_neg (by omega), if_neg er]
        exact c.one j s hj hs
    · rw [updT_other _ _ e, Array.getElem?_setIfInBounds, if_neg (by omega)]
      exact c.one j s hj hs
  all_goals rw [Array.getElem?_setIfInBounds, if_neg (by omega)]
  · exact c.lrs
  · exact c.mask
  · exact c.inj
  · exact c.ack
  · exact c.en

theorem IsRt.setMask (h : IsRt w b T S) (x : Int) : IsRt (w.setCell ⟨b, 449, none⟩ (.int .i64 x)) b T { S with mask := x } := by
  obtain ⟨cs, hw, c⟩ := h
  refine ⟨_, hw.setCell _ _, by simpa using c.size, fun j s hj hs => ?_, ?_, by simp [c.size], ?_, ?_, ?_⟩
  all_goals rw [Array.getElem?_setIfInBounds, if_neg (by omega)]
  · exact c.one j s hj hs
  · exact c.lrs
  · exact c.inj
  · exact c.ack
  · exact c.en
theorem IsRt.setInj (h : IsRt w b T S) (x : Int) : IsRt (w.setCell ⟨b, 450, none⟩ (.int .i64 x)) b T { S with inj := x } := by
  obtain ⟨cs, hw, c⟩ := h
  refine ⟨_, hw.setCell _ _, by simpa using c.size, fun j s hj hs => ?_, ?_, ?_, by simp [c.size], ?_, ?_⟩
  all_goals rw [Array.getElem?_setIfInBounds, if_neg (by omega)]
  · exact c.one j s hj hs
  · exact c.lrs
  · exact c.mask
  · exact c.ack
  · exact c.en
theorem IsRt.setAck (h : IsRt w b T S) (x : Int) : IsRt (w.setCell ⟨b, 451, none⟩ (.int .i64 x)) b T { S with ack := x } := by
  obtain ⟨cs, hw, c⟩ := h
  refine ⟨_, hw.setCell _ _, by simpa using c.size, fun j s hj hs => ?_, ?_, ?_, ?_, by simp [c.size], ?_⟩
  all_goals rw [Array.getElem?_setIfInBounds, if_neg (by omega)]
  · exact c.one j s hj hs
  · exact c.lrs
  · exact c.mask
  · exact c.inj
  · exact c.en
theorem IsRt.setEn (h : IsRt w b T S) (x : Int) : IsRt (w.setCell ⟨b, 452, none⟩ (.int .i64 x)) b T { S with en := x } := by
  obtain ⟨cs, hw, c⟩ := h
  refine ⟨_, hw.setCell _ _, by simpa using c.size, fun j s hj hs => ?_, ?_, ?_, ?_, ?_, by simp [c.size]⟩
  all_goals rw [Array.getElem?_setIfInBounds, if_neg (by omega)]
  · exact c.one j s hj hs
  · exact c.lrs
  · exact c.mask
  · exact c.inj
  · exact c.ack
/-- The numbers alone are what the struct holds of the state. -/
theorem IsRt.nums_eq {S' : Vg} (h : IsRt w b T S) (h1 : S'.lrs = S.lrs) (h2 : S'.mask = S.mask) (h3 : S'.inj = S.inj) (h4 : S'.ack = S.ack) (h5 : S'.en = S.en) : IsRt w b T S' := by
  obtain ⟨cs, hw, c⟩ := h
  exact ⟨cs, hw, c.size, c.one, by rw [h1]; exact c.lrs, by rw [h2]; exact c.mask, by rw [h3]; exact c.inj, by rw [h4]; exact c.ack, by rw [h5]; exact c.en⟩
end

/-- What a call that changes the document's controller leaves. -/
def Rch (w : World) (b : Nat) (S : Vg) (w' : World) : Prop := Fr (at' b) w w' ∧ IsRv w' b S
theorem Rch.same {w w1 : World} {b : Nat} {S : Vg} (h : IsRv w b S) (f : Fr none' w w1) : Rch w b S w1 := ⟨f.mono (fun _ _ h => h.elim), h.keep0 f⟩
theorem Rch.ans {w w1 : World} {b : Nat} {S : Vg} (h : Rch w b S w1) (hb : ∀ k, at' b k → k < w.heap.size) (v0 v1 v2 : Value) :
    Rch w b S (((w1.setCell ⟨w.heap.size + 1, 0, none⟩ v0).setCell ⟨w.heap.size + 1, 1, none⟩ v1).setCell ⟨w.heap.size + 1, 2, none⟩ v2) :=
  ⟨fr_three h.1 (Or.inl (Nat.le_succ _)) v0 v1 v2, h.2.keep (fr_three (Fr.refl (at' (w.heap.size + 1)) w1) (Or.inr rfl) v0 v1 v2) (fun e => by have := hb b rfl; have e' : b = w.heap.size + 1 := e; omega)⟩

/-! ### how a line turns with the state -/
theorem Rel.line {T : Nat → One} {S S' : Vg} (h : Rel T S) {k : Nat} {o : One} (hk : S'.off k = o.off ∧ S'.pe k = (if o.pe then some (o.p, o.lv) else none) ∧ S'.ac k = (if o.ac then some (o.a, o.fl) else none))
    (ho : ∀ j, j ≠ k → S'.off j = S.off j ∧ S'.pe j = S.pe j ∧ S'.ac j = S.ac j) : Rel (updT T k o) S' := by
  refine ⟨fun j hj => ?_, fun j hj => ?_, fun j hj => ?_⟩
  all_goals
    by_cases e : j = k
    · subst e
      rw [updT_same]
      first | exact hk.1 | exact hk.2.1 | exact hk.2.2
    · rw [updT_other _ _ e]
      first | (rw [(ho j e).1]; exact h.off j hj) | (rw [(ho j e).2.1]; exact h.pe j hj) | (rw [(ho j e).2.2]; exact h.ac j hj)

theorem Rel.pe_some {T : Nat → One} {S : Vg} (h : Rel T S) {k : Nat} (hk : k < 64) : (T k).pe = (S.pe k).isSome := by rw [h.pe k hk]; cases (T k).pe <;> rfl
theorem Rel.ac_some {T : Nat → One} {S : Vg} (h : Rel T S) {k : Nat} (hk : k < 64) : (T k).ac = (S.ac k).isSome := by rw [h.ac k hk]; cases (T k).ac <;> rfl

end Go.Proofs.Ythkieoedidpkaaa
