/-
  What the laws of cdt share: rows of the call's own, slices read, depths by place. No statement is proved here.
-/
import Derived.Test.YtjopmhidldemmaaCdtAwake
namespace Go.Proofs.Ytjopmhidldemmaa
open Go.RowKit Go.Maps Go.WideMaps

theorem info_int1 : (Try.prog.info? 3).map (fun i => (i.zero, i.size, i.bytes)) = some (some (.int .i64 0), 1, 8) := by kernel_rfl
theorem info_bool : (Try.prog.info? 4).map (fun i => (i.zero, i.size, i.bytes)) = some (some (.bool false), 1, 1) := by kernel_rfl

/-- A row of one cell each, of the call's own since w0. -/
structure Own1 (e : TypeId) (w0 w : World) (v : Value) (L : List Value) : Prop where
  fr : Fr none' w0 w
  ow : OwnK e 1 w w0.heap.size v L.length L

theorem Own1.keep {e : TypeId} {w0 w w' : World} {v : Value} {L : List Value} (h : Own1 e w0 w v L) (f : Fr none' w w') : Own1 e w0 w' v L := ⟨h.fr.trans f, h.ow.keep0 f⟩
theorem own1_nil (e : TypeId) (w : World) : Own1 e w w (.slice none 0 0) [] := ⟨Fr.refl _ _, ownk_nil _ _ _ _⟩

theorem OwnK.slice {e : TypeId} {k : Nat} {w : World} {B : Nat} {v : Value} {n : Nat} {L : List Value} (h : OwnK e k w B v n L) : ∃ a cap, v = .slice a n cap := by
  by_cases hn : n = 0
  · subst hn; exact ⟨_, _, h.2 rfl⟩
  · obtain ⟨g, cap, cur, hv, _⟩ := h.row hn
    exact ⟨_, _, hv⟩
theorem OwnK.get {e : TypeId} {w : World} {B : Nat} {a : Option Addr} {n m cap : Nat} {L : List Value} (h : OwnK e 1 w B (.slice a n cap) m L) {i : Nat} {x : Value} (hi : L[i]? = some x) : ∃ g, a = some ⟨g, 0, none⟩ ∧ w.cell? ⟨g, i, none⟩ = some x := by
  have hn : m ≠ 0 := by
    intro e
    have := h.1.1
    rw [e] at this
    have hL : L = [] := List.eq_nil_of_length_eq_zero (by simpa using this)
    rw [hL] at hi
    simp at hi
  obtain ⟨g, cap', cur, hv, _, hr, _, _, _, hx⟩ := h.row hn
  simp only [Value.slice.injEq] at hv
  exact ⟨g, hv.1, (hr.cell i).trans (hx i x hi)⟩

theorem RfS.get {w : World} {B : Nat} {a : Option Addr} {n cap : Nat} {L : List Rf} (h : RfS w B (.slice a n cap) L) {i : Nat} {x : Rf} (hi : L[i]? = some x) : ∃ g, a = some ⟨g, 0, none⟩ ∧ w.cell? ⟨g, i * 2, none⟩ = some (.int .i64 x.n) ∧ w.cell? ⟨g, i * 2 + 1, none⟩ = some (.int .i64 x.i) := by
  obtain ⟨a', cap', hv, hc⟩ := h.cells
  simp only [Value.slice.injEq] at hv
  obtain ⟨g, e, _, r⟩ := hc i x hi
  exact ⟨g, hv.1.trans e, r⟩

theorem dep_get : ∀ {F : List En}, (F.map (·.a)).Nodup → ∀ {j : Nat} {e : En}, F[j]? = some e → depF e.a F = e.d
  | [], _, _, _, h => by simp at h
  | x :: F, hn, 0, e, h => by
    simp at h
    subst h
    simp [depF]
  | x :: F, hn, j + 1, e, h => by
    have h' : F[j]? = some e := by simpa using h
    rw [List.map_cons, List.nodup_cons] at hn
    have hx : x.a ≠ e.a := fun hh => hn.1 (by rw [hh]; exact List.mem_map_of_mem (List.mem_of_getElem? h'))
    simp only [depF, if_neg hx]
    exact dep_get hn.2 h'
theorem row2 {w : World} {b : Nat} {x y : Value} {ty : TypeId} (r : Row w b #[x, y] ty) : w.cell? ⟨b, 0, none⟩ = some x ∧ w.cell? ⟨b, 1, none⟩ = some y := ⟨r.cell 0, r.cell 1⟩

end Go.Proofs.Ytjopmhidldemmaa
