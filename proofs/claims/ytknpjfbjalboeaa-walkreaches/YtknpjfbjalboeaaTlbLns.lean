/-
  The contract of package tlb's Lines over the translation: the eight lines, in a row of the call's own. No statement is proved here.
-/
import Derived.Test.YtknpjfbjalboeaaTlbMem
import Derived.Laws.CopyRow
import Derived.Laws.CopyOwn
import Derived.Laws.MakeOwn
namespace Go.Proofs.Ytknpjfbjalboeaa
open Go.RowKit

theorem lines_one {A : Array Value} {T : Nat → Ln} (hA : A.size = 40) (h : IsLines (fun i => A[i]?) 8 T) : ∀ v ∈ A.toList, v.oneCell' = true := by
  intro v hv
  obtain ⟨i, hi⟩ := List.mem_iff_getElem?.mp hv
  have hv' : A[i]? = some v := by simpa using hi
  have hi' : i < 40 := by
    rcases Nat.lt_or_ge i 40 with h' | h'
    · exact h'
    · rw [Array.getElem?_eq_none (by omega)] at hv'; exact absurd hv' (by simp)
  obtain ⟨e0, e1, e2, e3, e4⟩ := h (i / 5) (by omega)
  have hr : i = i / 5 * 5 ∨ i = i / 5 * 5 + 1 ∨ i = i / 5 * 5 + 2 ∨ i = i / 5 * 5 + 3 ∨ i = i / 5 * 5 + 4 := by omega
  rcases hr with hr | hr | hr | hr | hr <;> rw [hr] at hv'
  · rw [show A[i / 5 * 5]? = _ from e0] at hv'; cases hv'; rfl
  · rw [show A[i / 5 * 5 + 1]? = _ from e1] at hv'; cases hv'; rfl
  · rw [show A[i / 5 * 5 + 2]? = _ from e2] at hv'; cases hv'; rfl
  · rw [show A[i / 5 * 5 + 3]? = _ from e3] at hv'; cases hv'; rfl
  · rw [show A[i / 5 * 5 + 4]? = _ from e4] at hv'; cases hv'; rfl

theorem info_line : (Try.prog.info? 33).map (fun i => (i.zero, i.bytes, i.size)) = some (some (.agg #[.int .i64 0, .int .i64 0, .int .i64 0, .int .i64 0, .int .i64 0]), 40, 5) := by kernel_rfl

theorem make_lines : ∃ zs : Array Value, zs.size = 40 ∧ ∀ w : World, (Instr.makeSlice 55 (.int .i64 8) (.int .i64 8)).run Try.prog w = .ok (.slice (some ⟨w.heap.size, 0, none⟩) 8 8) (w.alloc (.cells zs 33)) := by
  have hi := info_line
  cases hq : Try.prog.info? 33 with
  | none => simp [hq] at hi
  | some i =>
    rw [hq] at hi
    simp only [Option.map_some, Option.some.injEq, Prod.mk.injEq] at hi
    obtain ⟨hz, hb, hs⟩ := hi
    refine ⟨madeCells #[.int .i64 0, .int .i64 0, .int .i64 0, .int .i64 0, .int .i64 0] (8 * 5), by rw [size_madeCells], fun w => ?_⟩
    have := run_make (P := Try.prog) w 55 33 i _ Try.underlying55 hq hz .i64 .i64 8 8 (by omega) (by omega) (by rw [hb]; omega) (by omega)
    rw [this, hs]
    rfl

theorem copy_whole {w : World} (g b : Nat) (cur : Array Value) (t ty : TypeId) (hg : Row w g cur t) (hcur : cur.size = 40) (A : Array Value) (hA : A.size = 40)
    (hsrc : ∀ j v, A[j]? = some v → w.cell? ⟨b, j, none⟩ = some v) (h1 : ∀ v ∈ A.toList, v.oneCell' = true) :
    (Builtin.copy_ #[55, 55] ty #[.slice (some ⟨g, 0, none⟩) 8 8, .slice (some ⟨b, 0, none⟩) 8 8]).run Try.prog w = .ok (.int .i64 8) (w.setRow g A) := by
  have hl := run_loadCells_list (P := Try.prog) w ⟨b, 0, none⟩ A.toList (fun j v hv => by
    rw [add_lit', Nat.zero_add]
    exact hsrc j v (by simpa using hv))
  have hst := run_storeCells_at Try.prog g 0 t A.toList 0 cur w hg (by simp [hA, hcur]) h1
  have hsz := size_line
  cases hq : Try.prog.info? 33 with
  | none => simp [hq] at hsz
  | some i =>
    have hi : i.size = 5 := by simpa [hq] using hsz
    simp only [Array.length_toList, hA, Array.toArray_toList] at hl
    have hdr : List.drop 40 cur.toList = [] := List.drop_eq_nil_of_le (by simp [hcur])
    simp [hA, hdr] at hst
    simp [Builtin.copy_, run_underlying Try.underlying55, Builtin.lenOf, Builtin.firstCells, sizeOf, typeInfo, hq, hi, hl, hst, goInt]

theorem Fr.setRow {S : Nat → Prop} {w w' : World} (h : Fr S w w') {g : Nat} (hg : w.heap.size ≤ g ∨ S g) (cs : Array Value) : Fr S w (w'.setRow g cs) :=
  ⟨h.os, h.tape, h.output, by simpa [World.setRow] using h.size, fun k hk hn => by
    rw [setRow_other w' g k cs (by rcases hg with hg | hg; omega; intro e; subst e; exact hn hg)]; exact h.block k hk hn⟩

set_option maxHeartbeats 1000000 in
theorem lines_any (w : World) (b : Nat) (T : Nat → Ln) (fo mi : Int) (h : IsTlb w b T fo mi) :
    Calls Try.prog 14 #[.pointer (some ⟨b, 0, none⟩)] w fun e w' => ∃ g, e = .returned (.slice (some ⟨g, 0, none⟩) 8 8) ∧ w.heap.size ≤ g ∧ Fr none' w w' ∧ LineRow w' g 8 8 T := by
  obtain ⟨A, hA, hl, hc⟩ := h.arr
  obtain ⟨zs, hzs, hmk⟩ := make_lines
  have r0 := row_alloc w zs 33
  have f0 := (Fr.refl none' w).alloc (.cells zs 33)
  have hc0 : ∀ j v', A[j]? = some v' → (w.alloc (.cells zs 33)).cell? ⟨b, j, none⟩ = some v' := fun j v' hv => cell_keep ((Fr.refl none' w).alloc _) (hc j v' hv) (fun h => h)
  clear hc
  have hcp := copy_whole w.heap.size b zs 33 3 r0 hzs A hA hc0 (lines_one hA hl)
  go_enter Try.func14, Try.ntmps14
  go_wp2_with fail
  go_ret
  exact ⟨_, rfl, Nat.le_refl _, f0.setRow (Or.inl (Nat.le_refl _)) _, A, setRow_heap _ _ _ _ _ _ r0, hA, hl⟩

end Go.Proofs.Ytknpjfbjalboeaa
