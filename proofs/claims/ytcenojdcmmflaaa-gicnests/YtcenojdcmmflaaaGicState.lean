/-
  Contracts of package gic's State over the translation. No statement is proved here.
-/
import Derived.Test.YtcenojdcmmflaaaGicAsk
import Derived.Deep.RegionHeld3
namespace Go.Proofs.Ytcenojdcmmflaaa
open Go.RowKit

theorem size_lr : (Try.prog.info? 39).map (·.size) = some 5 := by kernel_rfl

theorem ret_lr {fn : Func} {p u : Tmp} {tmps : Array Value} {g : Nat} {cs : Array Value} {w : World} (h : fn.results = #[.cell p 39, .tmp u]) (hp : tmps.getD p undef = .pointer (some ⟨g, 0, none⟩)) (hr : Row w g cs 39) (hs : cs.size = 5) :
    (results fn tmps).run Try.prog w = .ok (.tuple #[.agg cs, tmps.getD u undef]) w := by
  rw [results_cell_tmp h, hp]
  simp only [asAddr, Sem.run_pure, Result.andThen]
  rw [run_loadVar_row w g _ 39 cs (0, 0) _ hr Try.underlying39 rfl (by rw [hs]; exact size_lr)]

/-- What State tells of a line. -/
def lrc (n : Int) (l : Li) : Array Value := #[.int .i64 n, .int .i64 l.p, .bool l.en, .bool l.pe, .bool (act l)]
def zlr : Array Value := #[.int .i64 0, .int .i64 0, .bool false, .bool false, .bool false]

theorem row_set5 {w : World} {g : Nat} {c0 c1 c2 c3 c4 : Value} {t : TypeId} (h : Row w g #[c0, c1, c2, c3, c4] t) (v0 v1 v2 v3 v4 : Value) :
    Row (((((w.setCell ⟨g, 0, none⟩ v0).setCell ⟨g, 1, none⟩ v1).setCell ⟨g, 2, none⟩ v2).setCell ⟨g, 3, none⟩ v3).setCell ⟨g, 4, none⟩ v4) g #[v0, v1, v2, v3, v4] t := by
  simpa using ((((h.setCell 0 v0).setCell 1 v1).setCell 2 v2).setCell 3 v3).setCell 4 v4

theorem row5 {w : World} {b : Nat} {c0 c1 c2 c3 c4 : Value} {t : TypeId} (h : Row w b #[c0, c1, c2, c3, c4] t) :
    w.cell? ⟨b, 0, none⟩ = some c0 ∧ w.cell? ⟨b, 1, none⟩ = some c1 ∧ w.cell? ⟨b, 2, none⟩ = some c2 ∧ w.cell? ⟨b, 3, none⟩ = some c3 ∧ w.cell? ⟨b, 4, none⟩ = some c4 :=
  ⟨h.cell 0, h.cell 1, h.cell 2, h.cell 3, h.cell 4⟩

theorem row_alloc1 (w : World) (o : Obj) (cs : Array Value) (t : TypeId) : Row ((w.alloc o).alloc (.cells cs t)) (w.heap.size + 1) cs t := by
  have := row_alloc (w.alloc o) cs t
  rwa [show (w.alloc o).heap.size = w.heap.size + 1 by simp] at this

set_option maxHeartbeats 400000 in
theorem state_out (w : World) (p : Value) (n : Int) (hn : isL n = false) :
    Calls Try.prog 14 #[p, .int .i64 n] w fun e w' => e = .returned (.tuple #[.agg zlr, .int .i64 1]) ∧ Fr none' w w' := by
  have r0 := row_alloc w zlr 39
  have f0 := (Fr.refl none' w).alloc (.cells zlr 39)
  unfold zlr at r0 f0
  go_enter Try.func14, Try.ntmps14
  go_wp2_with fail
  refine (has_any _ _).mono ?_
  rintro e w1 ⟨rfl, rfl⟩
  rw [hn]
  go_wp2_with fail
  refine bodyPost_ret (ret_lr rfl rfl r0 rfl) rfl ?_
  exact ⟨rfl, f0⟩

set_option maxHeartbeats 4000000 in
theorem state_in (w : World) (b : Nat) (T : Nat → Li) (m : Int) (h : IsGic w b T m) (k : Nat) (hk : k < 32) :
    Calls Try.prog 14 #[.pointer (some ⟨b, 0, none⟩), .int .i64 (k : Int)] w fun e w' => e = .returned (.tuple #[.agg (lrc k (T k)), .int .i64 0]) ∧ Fr none' w w' := by
  have hb : isL (k : Int) = true := isL_iff.mpr (by omega)
  have i1 : 0 ≤ (k : Int) ∧ (k : Int) < 32 := by omega
  have h0 := h.alloc (.cells zlr 39)
  have r0 := (row_alloc w zlr 39).alloc (.cells #[.int .i64 (T k).p, .int .i64 (T k).s, .bool (T k).en, .bool (T k).pe] 54)
  have r1 := row_alloc1 w (.cells zlr 39) #[.int .i64 (T k).p, .int .i64 (T k).s, .bool (T k).en, .bool (T k).pe] 54
  have f0 := ((Fr.refl none' w).alloc (.cells zlr 39)).alloc (.cells #[.int .i64 (T k).p, .int .i64 (T k).s, .bool (T k).en, .bool (T k).pe] 54)
  unfold zlr at h0 r0 r1 f0
  obtain ⟨c0, c1, c2, c3⟩ := h0.cells k hk
  obtain ⟨d0, d1, d2, d3⟩ := row4 r1
  clear h h0
  go_enter Try.func14, Try.ntmps14
  go_wp2_with fail
  refine (has_any _ _).mono ?_
  rintro e w1 ⟨rfl, rfl⟩
  rw [hb]
  go_wp2_with fail
  clear c0 c1 c2 c3
  go_region_held3 (fun w' => w'.cell? ⟨w.heap.size + 1, 0, none⟩ = some (.int .i64 (T k).p) ∧ w'.cell? ⟨w.heap.size + 1, 1, none⟩ = some (.int .i64 (T k).s) ∧ w'.cell? ⟨w.heap.size + 1, 2, none⟩ = some (.bool (T k).en) ∧ w'.cell? ⟨w.heap.size + 1, 3, none⟩ = some (.bool (T k).pe)) (first | with_reducible exact ⟨d0, d1, d2, d3⟩ | with_reducible exact ⟨x0, x1, x2, x3⟩ | go_keep) (first | (go_at_call 29; refine (active_any (T k) _).mono ?_; rintro e w2 ⟨rfl, f2⟩; (replace f2 := f2.undrew); (replace r0 := r0.keep f2 (fun h => h)); (replace r1 := r1.keep f2 (fun h => h)); (replace f0 := f0.trans f2); clear f2; obtain ⟨x0, x1, x2, x3⟩ := row4 r1; obtain ⟨e0, e1, e2, e3, e4⟩ := row5 r0; have g0 := r0.frozen 0; have g1 := r0.frozen 1; have g2 := r0.frozen 2; have g3 := r0.frozen 3; have g4 := r0.frozen 4))
  all_goals (go_wp2_with fail)
  all_goals refine bodyPost_ret (ret_lr rfl rfl (row_set5 r0 _ _ _ _ _) rfl) rfl ?_
  all_goals exact ⟨rfl, ((((f0.setCell (p := ⟨w.heap.size, 0, none⟩) (Or.inl (Nat.le_refl _)) _).setCell (p := ⟨w.heap.size, 1, none⟩) (Or.inl (Nat.le_refl _)) _).setCell (p := ⟨w.heap.size, 2, none⟩) (Or.inl (Nat.le_refl _)) _).setCell (p := ⟨w.heap.size, 3, none⟩) (Or.inl (Nat.le_refl _)) _).setCell (p := ⟨w.heap.size, 4, none⟩) (Or.inl (Nat.le_refl _)) _⟩

end Go.Proofs.Ytcenojdcmmflaaa
