/-
  Contracts of package cdt's New, Has, Depth and insert over the translation. No statement is proved here.
-/
import Derived.Test.YtjopmhidldemmaaCdtVal
import Derived.BigQuiet
import Derived.Deep.RegionWith
import Derived.Deep.RegionHeld3
namespace Go.Proofs.Ytjopmhidldemmaa
open Go.RowKit Go.Maps Go.WideMaps

theorem row_alloc1 (w : World) (o : Obj) (cs : Array Value) (t : TypeId) : Row ((w.alloc o).alloc (.cells cs t)) (w.heap.size + 1) cs t := by
  have := row_alloc (w.alloc o) cs t
  simpa using this

def T0 (n : Nat) : Tr := ⟨n + 1, n, []⟩

set_option maxRecDepth 100000 in
theorem new_any (w : World) : Calls Try.prog 5 #[] w fun e w' => ∃ t T, e = .returned (pv t) ∧ IsT w' t T ∧ T.Y = [] ∧ Fr none' w w' ∧ ∀ k, T.s t k → w.heap.size ≤ k := by
  have r0 := row_alloc w #[.int .i64 0, .int .i64 0, .int .i64 (-1), .pointer none, .pointer none] 47
  have m0 := mp_made (w.alloc (.cells #[.int .i64 0, .int .i64 0, .int .i64 (-1), .pointer none, .pointer none] 47))
  have r1 := row_alloc ((w.alloc (.cells #[.int .i64 0, .int .i64 0, .int .i64 (-1), .pointer none, .pointer none] 47)).alloc (.map #[] 0)) #[pv w.heap.size, .map (some (w.heap.size + 1))] 50
  have f0 := (((Fr.refl none' w).alloc (.cells #[.int .i64 0, .int .i64 0, .int .i64 (-1), .pointer none, .pointer none] 47)).alloc (.map #[] 0)).alloc (.cells #[pv w.heap.size, .map (some (w.heap.size + 1))] 50)
  have g0 := (Fr.refl none' (w.alloc (.cells #[.int .i64 0, .int .i64 0, .int .i64 (-1), .pointer none, .pointer none] 47))).alloc (.map #[] 0)
  have g1 := (Fr.refl none' ((w.alloc (.cells #[.int .i64 0, .int .i64 0, .int .i64 (-1), .pointer none, .pointer none] 47)).alloc (.map #[] 0))).alloc (.cells #[pv w.heap.size, .map (some (w.heap.size + 1))] 50)
  replace r0 := (r0.keep g0 (fun h => h)).keep g1 (fun h => h)
  replace m0 := m0.keep g1 (fun h => h)
  simp only [World.size_alloc] at m0 r1
  have HR : Hid (IsT _ (w.heap.size + 1 + 1) (T0 w.heap.size)) := ⟨⟨r1, m0, ⟨r0, trivial⟩, by simp [Tr.X, T0], by simp [Tr.X, T0]; omega⟩⟩
  have Hf : Hid _ := ⟨f0⟩
  clear r0 m0 r1 f0 g0 g1
  have hmm := @run_makeMap Try.prog
  go_enter Try.func5, Try.ntmps5
  go_wp2
  go_ret
  refine ⟨w.heap.size + 1 + 1, T0 w.heap.size, rfl, HR.out, rfl, Hf.out, fun k hk => ?_⟩
  rcases hk with rfl | rfl | ⟨x, hx, rfl⟩
  · omega
  · show w.heap.size ≤ w.heap.size + 1
    omega
  · simp [Tr.X, T0] at hx
    subst hx
    exact Nat.le_refl _

theorem IsT.c0 {w : World} {t : Nat} {T : Tr} (h : IsT w t T) : w.cell? ⟨t, 0, none⟩ = some (pv T.tb) := h.row.cell 0
theorem IsT.c1 {w : World} {t : Nat} {T : Tr} (h : IsT w t T) : w.cell? ⟨t, 1, none⟩ = some (.map (some T.m)) := h.row.cell 1
theorem pl5 {w : World} {b : Nat} {e : En} {p q : Option Addr} (h : Row w b (plC e p q) 47) :
    w.cell? ⟨b, 0, none⟩ = some (.int .i64 e.a.n) ∧ w.cell? ⟨b, 1, none⟩ = some (.int .i64 e.a.i) ∧ w.cell? ⟨b, 2, none⟩ = some (.int .i64 e.d) ∧ w.cell? ⟨b, 3, none⟩ = some (.pointer p) ∧ w.cell? ⟨b, 4, none⟩ = some (.pointer q) :=
  ⟨h.cell 0, h.cell 1, h.cell 2, h.cell 3, h.cell 4⟩

set_option maxRecDepth 100000 in
set_option maxHeartbeats 1000000 in
theorem has_any (w : World) (t : Nat) (T : Tr) (h : IsT w t T) (a : Rf) (ha : a.Ok) : Calls Try.prog 24 #[pv t, rfV a] w fun e w' => e = .returned (.bool (hasF T.F a)) ∧ Fr none' w w' := by
  have f1 := (Fr.refl none' w).alloc (.cells #[.int .i64 a.n, .int .i64 a.i] 33)
  have h1 := h.keep0 f1
  have c1 := h1.c1
  cases hh : hasF T.F a with
  | false =>
    have l0 : ∀ n, _ := fun n => (h1.keep0 (fr_drewN _ n)).map.look_none ha (mapF_none hh)
    clear h1 h
    go_enter Try.func24, Try.ntmps24
    go_wp2_with fail
    go_quiet (fail)
    go_wp2
    go_ret
    exact ⟨rfl, f1.trans (fr_drewN _ _)⟩
  | true =>
    obtain ⟨A, x, C, hY, rfl, hA⟩ := place_of hh
    have l0 : ∀ n, _ := fun n => (h1.keep0 (fr_drewN _ n)).map.look_some ha (by rw [hY]; exact mapF_at hA)
    clear h1 h
    go_enter Try.func24, Try.ntmps24
    go_wp2_with fail
    go_quiet (fail)
    go_wp2
    go_ret
    exact ⟨rfl, f1.trans (fr_drewN _ _)⟩

end Go.Proofs.Ytjopmhidldemmaa
