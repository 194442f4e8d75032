/-
  A small law of package vgic's texts, for seats without the law's own answers. No statement is proved here.
-/
import Derived.Test.YthkieoedidpkaaaVgNext
namespace Go.Proofs.Ythkieoedidpkaaa
open Go.RowKit

theorem fr_three {S : Nat → Prop} {w w1 : World} {g : Nat} (h : Fr S w w1) (hg : w.heap.size ≤ g ∨ S g) (v0 v1 v2 : Value) : Fr S w (((w1.setCell ⟨g, 0, none⟩ v0).setCell ⟨g, 1, none⟩ v1).setCell ⟨g, 2, none⟩ v2) :=
  ((h.setCell (p := ⟨g, 0, none⟩) hg v0).setCell (p := ⟨g, 1, none⟩) hg v1).setCell (p := ⟨g, 2, none⟩) hg v2

end Go.Proofs.Ythkieoedidpkaaa
