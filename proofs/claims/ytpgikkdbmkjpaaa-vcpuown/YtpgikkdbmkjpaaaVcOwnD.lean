/-
  A write and an injection as plain data: what is read behind them. An array that is filled, cell by cell. No statement is proved here.
-/
import Derived.Test.YtpgikkdbmkjpaaaVcPr
namespace Go.Proofs.Ytpgikkdbmkjpaaa
open Go.RowKit

theorem fnd_other {L : List Vc} {k x : Int} {f : Vc → Vc} (hf : ∀ t, (f t).id = t.id) (h : x ≠ k) : fnd (upd L k f) x = fnd L x := by rw [fnd_upd1 L k hf, if_neg h]
theorem fnd_same {L : List Vc} {k : Int} {f : Vc → Vc} (hf : ∀ t, (f t).id = t.id) : fnd (upd L k f) k = (fnd L k).map f := by rw [fnd_upd1 L k hf, if_pos rfl]
theorem wri_fnd (S : Vp) (id n v i : Int) : fnd (wriS S id n v).L i = if i = id ∧ wriE S id n = 0 then (fnd S.L i).map (set1R n.toNat v) else fnd S.L i := by
  unfold wriS
  by_cases h : wriE S id n = 0
  · rw [if_pos h]
    by_cases e : i = id
    · subst e
      rw [if_pos ⟨rfl, h⟩]
      exact fnd_same (f := set1R n.toNat v) (fun _ => rfl)
    · rw [if_neg (fun h => e h.1)]
      exact fnd_other (f := set1R n.toNat v) (fun _ => rfl) e
  · rw [if_neg h, if_neg (fun h2 => h h2.2)]
theorem ij_fnd (S : Vp) (id n p i : Int) (l : Bool) : fnd (ijS S id n p l).L i = if i = id ∧ hasB S id = true then (fnd S.L i).map (setV (injS (vgI S id) n p l)) else fnd S.L i := by
  unfold ijS
  by_cases h : hasB S id = true
  · rw [if_pos h]
    by_cases e : i = id
    · subst e
      rw [if_pos ⟨rfl, h⟩]
      exact fnd_same (f := setV (injS (vgI S i) n p l)) (fun _ => rfl)
    · rw [if_neg (fun h => e h.1)]
      exact fnd_other (f := setV (injS (vgI S id) n p l)) (fun _ => rfl) e
  · rw [if_neg h, if_neg (fun h2 => h h2.2)]
/-- What stands in a register behind both. -/
def rgS (S : Vp) (i : Int) (k : Nat) : Option Int := (fnd S.L i).map fun x => x.sy k
theorem own_rg (S : Vp) (id n v a p i : Int) (l : Bool) (k : Nat) : rgS (ijS (wriS S id n v) id a p l) i k = if wriE S id n = 0 ∧ i = id ∧ (k : Int) = n then some v else rgS S i k := by
  unfold rgS
  rw [ij_fnd, wri_fnd]
  have key : ∀ o : Option Vc, (if i = id ∧ hasB (wriS S id n v) id = true then o.map (setV (injS (vgI (wriS S id n v) id) a p l)) else o).map (fun x => x.sy k) = o.map fun x => x.sy k := fun o => by
    split
    · cases o <;> rfl
    · rfl
  rw [key]
  by_cases h : i = id ∧ wriE S id n = 0
  · rw [if_pos h]
    obtain ⟨rfl, h0⟩ := h
    have hb : hasB S i = true ∧ rgB n 0 5 = true := by
      unfold wriE at h0
      split at h0
      · rename_i h1
        split at h0
        · rename_i h2; exact ⟨h1, h2⟩
        · cases h0
      · cases h0
    obtain ⟨x, hx⟩ := has_iff.1 hb.1
    have hn := rg_iff.1 hb.2
    rw [hx]
    by_cases e : (k : Int) = n
    · rw [if_pos ⟨h0, rfl, e⟩]
      show some (if k = n.toNat then v else x.sy k) = some v
      rw [if_pos (by omega)]
    · rw [if_neg (fun h => e h.2.2)]
      show some (if k = n.toNat then v else x.sy k) = some (x.sy k)
      rw [if_neg (by omega)]
  · rw [if_neg h, if_neg (fun h2 => h ⟨h2.2.1, h2.1⟩)]
theorem rea_rg (S : Vp) (i : Int) {k : Nat} (hk : k < 8) : reaW S i (k : Int) = (rgS S i k).getD 0 := by
  unfold reaW reaE rgS hasB
  have hr : rgB (k : Int) 0 7 = true := rg_iff.2 (by omega)
  cases fnd S.L i with
  | none => rfl
  | some x =>
    rw [hr]
    rfl
theorem own_vg (S : Vp) (id n v a p i : Int) (l : Bool) (h : i ≠ id) : fnd (ijS (wriS S id n v) id a p l).L i = fnd S.L i := by
  rw [ij_fnd, if_neg (fun h2 => h h2.1), wri_fnd, if_neg (fun h2 => h h2.1)]

/-- An array of numbers of which the first m are F's. -/
def Fil (w : World) (g : Nat) (T : TypeId) (N : Nat) (kd : IntKind) (Q : Nat → Prop) (F : Nat → Int) (m : Nat) : Prop := ∃ cs, Row w g cs T ∧ cs.size = N ∧ (∀ j, j < N → ∃ x, cs[j]? = some (.int kd x)) ∧ ∀ j, j < m → Q j → cs[j]? = some (.int kd (F j))
section
variable {w w' : World} {g : Nat} {T : TypeId} {N m : Nat} {kd : IntKind} {Q : Nat → Prop} {F : Nat → Int}
theorem Fil.start (h : Row w g (Array.replicate N (.int kd 0)) T) : Fil w g T N kd Q F 0 :=
  ⟨_, h, by simp, fun j hj => ⟨0, by simp [hj]⟩, fun j hj _ => by omega⟩
theorem Fil.keep {X : Nat → Prop} (h : Fil w g T N kd Q F m) (f : Fr X w w') (hX : ¬ X g) : Fil w' g T N kd Q F m := by
  obtain ⟨cs, r, h1, h2, h3⟩ := h
  exact ⟨cs, r.keep f hX, h1, h2, h3⟩
theorem Fil.cell (h : Fil w g T N kd Q F m) {j : Nat} (hj : j < m) (hQ : Q j) : w.cell? ⟨g, j, none⟩ = some (.int kd (F j)) := by
  obtain ⟨cs, r, h1, h2, h3⟩ := h
  rw [r.cell]
  exact h3 j hj hQ
theorem Fil.some (h : Fil w g T N kd Q F m) {j : Nat} (hj : j < N) : (∃ x, w.cell? ⟨g, j, none⟩ = Option.some (.int kd x)) ∧ w.frozen? ⟨g, j, none⟩ = false := by
  obtain ⟨cs, r, h1, h2, h3⟩ := h
  obtain ⟨x, hx⟩ := h2 j hj
  exact ⟨⟨x, by rw [r.cell]; exact hx⟩, r.frozen j⟩
theorem Fil.step (h : Fil w g T N kd Q F m) (hm : m < N) {x : Int} (hx : x = F m) : Fil (w.setCell ⟨g, m, none⟩ (.int kd x)) g T N kd Q F (m + 1) := by
  obtain ⟨cs, r, h1, h2, h3⟩ := h
  refine ⟨_, r.setCell m (.int kd x), by simpa using h1, fun j hj => ?_, fun j hj hQ => ?_⟩
  · rw [Array.getElem?_setIfInBounds]
    by_cases e : m = j
    · rw [if_pos e, if_pos (by omega)]
      exact ⟨x, rfl⟩
    · rw [if_neg e]
      exact h2 j hj
  · rw [Array.getElem?_setIfInBounds]
    by_cases e : m = j
    · subst e
      rw [if_pos rfl, if_pos (by omega), hx]
    · rw [if_neg e]
      exact h3 j (by omega) hQ
theorem Fil.skip (h : Fil w g T N kd Q F m) (hm : ¬ Q m) : Fil w g T N kd Q F (m + 1) := by
  obtain ⟨cs, r, h1, h2, h3⟩ := h
  refine ⟨cs, r, h1, h2, fun j hj hQ => ?_⟩
  by_cases e : m = j
  · subst e
    exact absurd hQ hm
  · exact h3 j (by omega) hQ
end

def O2 (g1 g2 : Nat) : Nat → Prop := fun k => k = g1 ∨ k = g2
def FB (S : Vp) (j : Nat) : Int := reaW S ((j / 8 : Nat) : Int) ((j % 8 : Nat) : Int)
/-- Two arrays beside the machine. -/
structure Ar (w0 w : World) (p : Pp) (S S0 : Vp) (g1 g2 : Nat) (F2 : Nat → Int) (a b : Nat) : Prop where
  vx : Vx w0 w p S (O2 g1 g2)
  f1 : Fil w g1 42 48 .u32 (fun _ => True) (FB S0) a
  f2 : Fil w g2 43 6 .i64 (fun j => hasB S0 (j : Int) = true) F2 b
  ne : g1 ≠ g2
  hi : w0.heap.size ≤ g1 ∧ w0.heap.size ≤ g2
theorem Ar.start {w0 w : World} {p : Pp} {S : Vp} (h : Vx w0 w p S none') (F2 : Nat → Int) : Ar w0 ((w.alloc (.cells (Array.replicate 48 (.int .u32 0)) 42)).alloc (.cells (Array.replicate 6 (.int .i64 0)) 43)) p S S w.heap.size (w.heap.size + 1) F2 0 0 := by
  have f1 := (Fr.refl none' w).alloc (.cells (Array.replicate 48 (.int .u32 0)) 42)
  have f2 := (Fr.refl none' (w.alloc (.cells (Array.replicate 48 (.int .u32 0)) 42))).alloc (.cells (Array.replicate 6 (.int .i64 0)) 43)
  have r1 := (row_alloc w (Array.replicate 48 (.int .u32 0)) 42).keep f2 (fun h => h)
  have r2 := row_alloc (w.alloc (.cells (Array.replicate 48 (.int .u32 0)) 42)) (Array.replicate 6 (.int .i64 0)) 43
  rw [show (w.alloc (.cells (Array.replicate 48 (.int .u32 0)) 42)).heap.size = w.heap.size + 1 from Array.size_push ..] at r2
  have l1 := r1.lt
  have l2 := r2.lt
  refine ⟨h.more (f1.trans f2) (fun k hk => ⟨Or.inr ?_, ?_⟩), Fil.start r1, Fil.start r2, by omega, h.fr.size, Nat.le_trans h.fr.size (Nat.le_succ _)⟩
  · rcases hk with rfl | rfl
    · exact Nat.le_refl _
    · exact Nat.le_succ _
  · rcases hk with rfl | rfl
    · exact l1
    · exact l2
section
variable {w0 w w' : World} {p : Pp} {S S0 : Vp} {g1 g2 a b : Nat} {F2 : Nat → Int}
theorem Ar.keep0 (h : Ar w0 w p S S0 g1 g2 F2 a b) (f : Fr none' w w') : Ar w0 w' p S S0 g1 g2 F2 a b := ⟨h.vx.keep0 f, h.f1.keep f (fun h => h), h.f2.keep f (fun h => h), h.ne, h.hi⟩
theorem Ar.set1 (h : Ar w0 w p S S0 g1 g2 F2 a b) (ha : a < 48) {x : Int} (hx : x = FB S0 a) : Ar w0 (w.setCell ⟨g1, a, none⟩ (.int .u32 x)) p S S0 g1 g2 F2 (a + 1) b := by
  have f := fr_set w g1 a (.int .u32 x) (Fr.refl (at' g1) w)
  exact ⟨h.vx.keep f (fun k hk => by have e : k = g1 := hk; subst e; exact ⟨h.hi.1, Or.inl rfl⟩), h.f1.step ha hx, h.f2.keep f (fun e => h.ne (by have e : g2 = g1 := e; exact e.symm)), h.ne, h.hi⟩
theorem Ar.set2 (h : Ar w0 w p S S0 g1 g2 F2 a b) (hb : b < 6) {x : Int} (hx : x = F2 b) : Ar w0 (w.setCell ⟨g2, b, none⟩ (.int .i64 x)) p S S0 g1 g2 F2 a (b + 1) := by
  have f := fr_set w g2 b (.int .i64 x) (Fr.refl (at' g2) w)
  exact ⟨h.vx.keep f (fun k hk => by have e : k = g2 := hk; subst e; exact ⟨h.hi.2, Or.inr rfl⟩), h.f1.keep f (fun e => h.ne e), h.f2.step hb hx, h.ne, h.hi⟩
theorem Ar.skip2 (h : Ar w0 w p S S0 g1 g2 F2 a b) (hb : ¬ hasB S0 (b : Int) = true) : Ar w0 w p S S0 g1 g2 F2 a (b + 1) := ⟨h.vx, h.f1, h.f2.skip hb, h.ne, h.hi⟩
theorem Ar.turn {p' : Pp} {S' : Vp} (h : Ar w0 w p S S0 g1 g2 F2 a b) (v : Vx w0 w' p' S' (O2 g1 g2)) (f : FrO w0 (O2 g1 g2) w w') : Ar w0 w' p' S' S0 g1 g2 F2 a b := ⟨v, h.f1.keep f (fun e => e.2 (Or.inl rfl)), h.f2.keep f (fun e => e.2 (Or.inr rfl)), h.ne, h.hi⟩
end

end Go.Proofs.Ytpgikkdbmkjpaaa
