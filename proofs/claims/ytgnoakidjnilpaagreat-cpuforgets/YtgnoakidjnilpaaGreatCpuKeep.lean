/-
  Small laws on what a store into one's own block leaves. No statement is proved here.
-/
import Derived.Test.YtgnoakidjnilpaaGreatCpuAct
namespace Go.Proofs.YtgnoakidjnilpaaGreat
open Go.RowKit

theorem fr_own8 (w : World) (g : Nat) (v0 v1 v2 v3 v4 v5 v6 v7 : Value) : Fr (at' g) w ((((((((w.setCell ⟨g, 0, none⟩ v0).setCell ⟨g, 1, none⟩ v1).setCell ⟨g, 2, none⟩ v2).setCell ⟨g, 3, none⟩ v3).setCell ⟨g, 4, none⟩ v4).setCell ⟨g, 5, none⟩ v5).setCell ⟨g, 6, none⟩ v6).setCell ⟨g, 7, none⟩ v7) := fr_set8 (S := at' g) (Fr.refl _ w) (Or.inr (show g = g from rfl)) _ _ _ _ _ _ _ _
theorem fr_own5 (w : World) (g : Nat) (v0 v1 v2 v3 v4 : Value) : Fr (at' g) w (((((w.setCell ⟨g, 0, none⟩ v0).setCell ⟨g, 1, none⟩ v1).setCell ⟨g, 2, none⟩ v2).setCell ⟨g, 3, none⟩ v3).setCell ⟨g, 4, none⟩ v4) := (Fr.refl (at' g) w).put5 (Or.inr (show g = g from rfl)) _ _ _ _ _
theorem row_set5' {w : World} {g : Nat} {c0 c1 c2 c3 c4 : Value} {t : TypeId} (h : Row w g #[c0, c1, c2, c3, c4] t) (v0 v1 v2 v3 v4 : Value) : Row (((((w.setCell ⟨g, 0, none⟩ v0).setCell ⟨g, 1, none⟩ v1).setCell ⟨g, 2, none⟩ v2).setCell ⟨g, 3, none⟩ v3).setCell ⟨g, 4, none⟩ v4) g #[v0, v1, v2, v3, v4] t := h.put5 _ _ _ _ _
theorem Jb.past {w w' : World} {B : Bm} {nf bx : Nat} {M : Mc} {X : Wk} {g : Nat} (h : Jb w B nf bx M X) (f : Fr (at' g) w w') (hn : ∀ k, B.y bx k → k ≠ g) : Jb w' B nf bx M X :=
  { h with m := h.m.keep f (hn _ (Or.inr rfl)) (hn _ (Or.inl (Or.inl (Or.inl rfl)))) (hn _ (Or.inl (Or.inl (Or.inr (Or.inl rfl))))) (fun k hk => hn k (Or.inl (Or.inl (Or.inr (Or.inr hk))))), x := h.x.keep f (hn _ (Or.inl (Or.inr rfl))) }

theorem ne_new {a b : Nat} (h : a < b) : ¬ at' b a := fun e => by have e' : a = b := e; omega
theorem rs_drew {S : Nat → Prop} {w w' : World} (f : Fr S w.drew w') : Fr S w w' := ((Fr.refl S w).drew).trans f
theorem rs_alloc {S : Nat → Prop} {w w' : World} {o : Obj} (f : Fr S (w.drew.alloc o) w') : Fr S w w' := ((Fr.refl S w).drew.alloc o).trans f
/-- A drawn world told anew. -/
theorem drewN_new {w : World} (m : Nat) : ∃ v, v = w.drewN m ∧ Fr none' w v := ⟨_, rfl, fr_drewN w m⟩

end Go.Proofs.YtgnoakidjnilpaaGreat
