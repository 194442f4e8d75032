/-
  A string that is gone through by its runes: the iterator's block told by itself, whatever else turns. No statement is proved here.
-/
import Derived.Test.YtecipogfdhpjfaaGreatDoorBase
import Derived.Laws.RangeString
namespace Go.Proofs.YtecipogfdhpjfaaGreatDoor
open Go.RowKit

/-- Block g is an iterator over s, at p. -/
def It (w : World) (g : Nat) (s : ByteArray) (p : Nat) : Prop := w.heap[g]? = some (.stringIter s p)
def itSet (w : World) (g : Nat) (s : ByteArray) (p : Nat) : World := { w with heap := w.heap.setIfInBounds g (.stringIter s p) }

theorem It.lt {w : World} {g p : Nat} {s : ByteArray} (h : It w g s p) : g < w.heap.size := by
  rcases Nat.lt_or_ge g w.heap.size with h' | h'
  · exact h'
  · simp [It, Array.getElem?_eq_none h'] at h
theorem it_new (w : World) (s : ByteArray) : It (w.iter s 0) w.heap.size s 0 := World.iter_heap w s 0
theorem fr_iter {S : Nat → Prop} {w wr : World} (h : Fr S w wr) (s : ByteArray) : Fr S w (wr.iter s 0) := h.alloc _
theorem Row.iter {w : World} {b : Nat} {cs : Array Value} {t : TypeId} (h : Row w b cs t) (s : ByteArray) : Row (w.iter s 0) b cs t := h.alloc _
theorem It.set {w : World} {g p : Nat} {s : ByteArray} (h : It w g s p) (q : Nat) : It (itSet w g s q) g s q := by
  have := h.lt
  simp [It, itSet, this]
theorem fr_itset {S : Nat → Prop} {w wr : World} {g : Nat} (h : Fr S w wr) (hg : w.heap.size ≤ g ∨ S g) (s : ByteArray) (q : Nat) : Fr S w (itSet wr g s q) :=
  ⟨h.os, h.tape, h.output, by simpa [itSet] using h.size, fun k hk hn => by
    have : g ≠ k := by rcases hg with hg | hg; omega; intro e; subst e; exact hn hg
    simp only [itSet]
    rw [Array.getElem?_setIfInBounds_ne this]
    exact h.block k hk hn⟩
theorem Row.itset {w : World} {b g p : Nat} {cs : Array Value} {t : TypeId} {s : ByteArray} (h : Row w b cs t) (i : It w g s p) (q : Nat) : Row (itSet w g s q) b cs t := by
  have : g ≠ b := by
    intro e
    subst e
    have h' : w.heap[g]? = some (.cells cs t (0, 0)) := h
    rw [show w.heap[g]? = _ from i] at h'
    simp at h'
  unfold Row itSet
  simp only
  rw [Array.getElem?_setIfInBounds_ne this]
  exact h
theorem It.keep {S : Nat → Prop} {w w' : World} {g p : Nat} {s : ByteArray} (h : It w g s p) (f : Fr S w w') (hs : ¬ S g) : It w' g s p := by
  unfold It; rw [f.block g h.lt hs]; exact h
theorem It.setCell {w : World} {b g p : Nat} {cs : Array Value} {t : TypeId} {s : ByteArray} (i : It w g s p) (h : Row w b cs t) (j : Nat) (v : Value) : It (w.setCell ⟨b, j, none⟩ v) g s p := by
  have : g ≠ b := by
    intro e
    subst e
    have h' : w.heap[g]? = some (.cells cs t (0, 0)) := h
    rw [show w.heap[g]? = _ from i] at h'
    simp at h'
  unfold It; rw [Below.heap_setCell _ _ _ _ this]; exact i

def itPos (w : World) (g : Nat) : Nat := match w.heap[g]? with | some (.stringIter _ p) => p | _ => 0
theorem It.pos {w : World} {g p : Nat} {s : ByteArray} (h : It w g s p) : itPos w g = p := by
  have h' : w.heap[g]? = some (.stringIter s p) := h
  simp [itPos, h']

section
variable {P : Program}
theorem next_some {w : World} {g p : Nat} {s : ByteArray} (i : It w g s p) (h : p < s.size) (ha : (s[p]'h).toNat < 128) (ty : TypeId) :
    (Instr.next (.pointer (some ⟨g, 0, none⟩)) true ty).run P w = .ok (.tuple #[.bool true, .int .i64 p, .int .i32 (s[p]'h).toNat]) (itSet w g s (p + 1)) := by
  have i' : w.heap[g]? = some (.stringIter s p) := i
  simp [Instr.next, getObj, setObj, Sem.run_bind, Sem.run, i', Result.andThen, h, decode_ascii s p h ha, goInt, itSet]
theorem next_none {w : World} {g p : Nat} {s : ByteArray} (i : It w g s p) (h : ¬ p < s.size) (ty : TypeId) :
    (Instr.next (.pointer (some ⟨g, 0, none⟩)) true ty).run P w = .ok (.tuple #[.bool false]) w := by
  have i' : w.heap[g]? = some (.stringIter s p) := i
  simp [Instr.next, getObj, Sem.run, i', h]
end

end Go.Proofs.YtecipogfdhpjfaaGreatDoor
