/-
  The contract of package iommu's New over the translation. No statement is proved here.
-/
import Derived.Test.YthmombgogmgobaaIoDma
namespace Go.Proofs.Ythmombgogmgobaa
open Go.RowKit

/-- The struct while its first n roots are laid. -/
structure Iz (cs : Array Value) (m n : Nat) : Prop where
  size : cs.size = 19
  ro : ∀ j, j < n → cs[j]? = some (.int .i64 (-1))
  ex : ∀ j, j < 16 → ∃ y, cs[j]? = some y
  m : cs[16]? = some (.map (some m))
  v : cs[17]? = some (.slice none 0 0)
  lo : cs[18]? = some (.int .i64 0)
theorem Iz.set {cs : Array Value} {m n : Nat} (h : Iz cs m n) (hn : n < 16) : Iz (cs.setIfInBounds n (.int .i64 (-1))) m (n + 1) := by
  refine ⟨by simpa using h.size, fun j hj => ?_, fun j hj => ?_, ?_, ?_, ?_⟩
  · by_cases e : n = j
    · subst e; rw [Array.getElem?_setIfInBounds, if_pos rfl, if_pos (by rw [h.size]; omega)]
    · rw [Array.getElem?_setIfInBounds, if_neg e]; exact h.ro j (by omega)
  · by_cases e : n = j
    · subst e; exact ⟨_, by rw [Array.getElem?_setIfInBounds, if_pos rfl, if_pos (by rw [h.size]; omega)]⟩
    · rw [Array.getElem?_setIfInBounds, if_neg e]; exact h.ex j hj
  · rw [Array.getElem?_setIfInBounds, if_neg (by omega)]; exact h.m
  · rw [Array.getElem?_setIfInBounds, if_neg (by omega)]; exact h.v
  · rw [Array.getElem?_setIfInBounds, if_neg (by omega)]; exact h.lo

theorem iz_zero (m : Nat) : Iz #[.int .i64 0, .int .i64 0, .int .i64 0, .int .i64 0, .int .i64 0, .int .i64 0, .int .i64 0, .int .i64 0, .int .i64 0, .int .i64 0, .int .i64 0, .int .i64 0, .int .i64 0, .int .i64 0, .int .i64 0, .int .i64 0, .map (some m), .slice none 0 0, .int .i64 0] m 0 :=
  ⟨rfl, fun _ h => by omega, fun j hj => ⟨_, Array.getElem?_eq_getElem (by simp; omega)⟩, rfl, rfl, rfl⟩

theorem row_alloc1' (w : World) (o : Obj) (cs : Array Value) (t : TypeId) : Row ((w.alloc o).alloc (.cells cs t)) (w.heap.size + 1) cs t := by
  have h := row_alloc (w.alloc o) cs t
  rwa [show (w.alloc o).heap.size = w.heap.size + 1 by simp] at h

set_option maxHeartbeats 1000000 in
theorem ionew_any (w : World) : Calls Try.prog 26 #[] w fun e w' => ∃ b O, e = .returned (.pointer (some ⟨b, 0, none⟩)) ∧ Fr none' w w' ∧ IsIo w' b O io0 ∧ ∀ k, O k → w.heap.size ≤ k := by
  have hmm := @run_makeMap Try.prog
  have g0 := lm_made w
  have f0 := (Fr.refl none' w).alloc (.map #[] 0)
  have f1 := f0.alloc (.cells #[.int .i64 0, .int .i64 0, .int .i64 0, .int .i64 0, .int .i64 0, .int .i64 0, .int .i64 0, .int .i64 0, .int .i64 0, .int .i64 0, .int .i64 0, .int .i64 0, .int .i64 0, .int .i64 0, .int .i64 0, .int .i64 0, .map (some w.heap.size), .slice none 0 0, .int .i64 0] 89)
  have r1 := row_alloc1' w (.map #[] 0) #[.int .i64 0, .int .i64 0, .int .i64 0, .int .i64 0, .int .i64 0, .int .i64 0, .int .i64 0, .int .i64 0, .int .i64 0, .int .i64 0, .int .i64 0, .int .i64 0, .int .i64 0, .int .i64 0, .int .i64 0, .int .i64 0, .map (some w.heap.size), .slice none 0 0, .int .i64 0] 89
  have g1 := g0.keep ((Fr.refl none' _).alloc (.cells #[.int .i64 0, .int .i64 0, .int .i64 0, .int .i64 0, .int .i64 0, .int .i64 0, .int .i64 0, .int .i64 0, .int .i64 0, .int .i64 0, .int .i64 0, .int .i64 0, .int .i64 0, .int .i64 0, .int .i64 0, .int .i64 0, .map (some w.heap.size), .slice none 0 0, .int .i64 0] 89)) (fun h => h)
  go_enter Try.func26, Try.ntmps26
  go_wp2_with fail
  go_loopw [6] (fun i wr => ∃ k : Nat, k ≤ 16 ∧ i = .int .i64 k ∧ Fr none' w wr ∧ LM wr w.heap.size (fun _ => none) ∧ ∃ cs, Row wr (w.heap.size + 1) cs 89 ∧ Iz cs w.heap.size k) (fun i _ => 16 - (intOf i).toNat)
  case atStart => exact ⟨0, by omega, rfl, f1, g1, _, r1, iz_zero _⟩
  case round =>
    clear f1 g1 r1 f0 g0
    obtain ⟨k, hk, rfl, fk, gk, cs, rk, zk⟩ := hrel
    by_cases hlt : k < 16
    · obtain ⟨y, hy⟩ := zk.ex k hlt
      have c0 : wr.cell? ⟨w.heap.size + 1, k, none⟩ = some y := (rk.cell k).trans hy
      have z0 := rk.frozen k
      have i1 : 0 ≤ (k : Int) ∧ (k : Int) < 16 := by omega
      have f' : Fr (at' (w.heap.size + 1)) wr (wr.setCell ⟨w.heap.size + 1, k, none⟩ (.int .i64 (-1))) := fr_set _ _ _ _ (Fr.refl _ _)
      have HN : Hid (Fr none' w (wr.setCell ⟨w.heap.size + 1, k, none⟩ (.int .i64 (-1))) ∧ LM (wr.setCell ⟨w.heap.size + 1, k, none⟩ (.int .i64 (-1))) w.heap.size (fun _ => none)) := ⟨fk.newer f' (by omega), gk.keep f' (fun e => by have e' : w.heap.size = w.heap.size + 1 := e; omega)⟩
      clear f'
      go_wp2_with fail
      go_roundw
      case rel => exact ⟨k + 1, by omega, by go_num, HN.out.1, HN.out.2, _, rk.setCell k _, zk.set hlt⟩
      case measure => simp [intOf]; omega
    · obtain rfl : k = 16 := by omega
      go_wp2_with fail
      go_ret
      refine ⟨w.heap.size + 1, _, rfl, fk, ⟨w.heap.size, .slice none 0 0, ⟨⟨cs, rk, zk.size, fun j hj => zk.ro j hj, zk.m, zk.v, zk.lo⟩, gk, rcS_nil _, by omega, (fun e => by cases e), (fun e => by cases e), ioOk0⟩, rfl⟩, fun k hk => ?_⟩
      rcases hk with rfl | rfl | hk
      · omega
      · omega
      · cases hk

end Go.Proofs.Ythmombgogmgobaa
