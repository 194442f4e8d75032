/-
  Contracts of package tlb's FlushPage, FlushAsid, FlushVmid, FlushAll, Fill over the translation, said of what the entries hold. No statement is proved here.
-/
import Derived.Test.YtgnoakidjnilpaaGreatTlbFill
import Derived.Shelf.Abstract
namespace Go.Proofs.YtgnoakidjnilpaaGreat
open Go.RowKit

set_option maxHeartbeats 400000 in
theorem test_asid (w : World) (b g1 g2 : Nat) (vm x : Int) (h1 : w.cell? ⟨g1, 0, none⟩ = some (.int .i64 vm)) (h2 : w.cell? ⟨g2, 0, none⟩ = some (.int .i64 x)) (n1 : g1 ≠ b) (n2 : g2 ≠ b) :
    Tests 160 #[.pointer (some ⟨g1, 0, none⟩), .pointer (some ⟨g2, 0, none⟩)] (fun l => l.v == vm && l.a == x) b w := by
  refine ⟨enters_of Tryz.func160 (by kernel_rfl) rfl, fun w1 l f1 => ?_⟩
  have e1 := cell_keep f1 h1 n1
  have e2 := cell_keep f1 h2 n2
  have l1 := cell_lt e1
  have l2 := cell_lt e2
  have k1 : g1 ≠ w1.heap.size := Nat.ne_of_lt l1
  have k2 : g2 ≠ w1.heap.size := Nat.ne_of_lt l2
  have a1 := cell_keep ((Fr.refl none' w1).alloc (.cells #[.int .i64 l.v, .int .i64 l.a, .int .i64 l.p, .int .i64 l.f, .int .i64 l.r] 101)) e1 (fun h => h)
  have a2 := cell_keep ((Fr.refl none' w1).alloc (.cells #[.int .i64 l.v, .int .i64 l.a, .int .i64 l.p, .int .i64 l.f, .int .i64 l.r] 101)) e2 (fun h => h)
  clear h1 h2 f1 e1 e2 l1 l2
  show Calls Tryz.prog 160 #[.agg #[.int .i64 l.v, .int .i64 l.a, .int .i64 l.p, .int .i64 l.f, .int .i64 l.r], .pointer (some ⟨g1, 0, none⟩), .pointer (some ⟨g2, 0, none⟩)] w1 _
  cases t1 : (l.v == vm) with
  | true =>
    go_enter Tryz.func160, Tryz.ntmps160
    go_wp2_with fail
    go_ret
    exact ⟨by simp [t1], (Fr.refl _ _).alloc _⟩
  | false =>
    go_enter Tryz.func160, Tryz.ntmps160
    go_wp2_with fail
    go_ret
    exact ⟨by simp [t1], (Fr.refl _ _).alloc _⟩

set_option maxHeartbeats 400000 in
theorem test_all (w : World) (b : Nat) : Tests 65 #[] (fun _ => true) b w := by
  refine ⟨enters_of Tryz.func65 (by kernel_rfl) rfl, fun w1 l _ => ?_⟩
  show Calls Tryz.prog 65 #[.agg #[.int .i64 l.v, .int .i64 l.a, .int .i64 l.p, .int .i64 l.f, .int .i64 l.r]] w1 _
  go_enter Tryz.func65, Tryz.ntmps65
  go_wp2_with fail
  go_ret
  exact ⟨rfl, (Fr.refl _ _).alloc _⟩

set_option maxHeartbeats 400000 in
theorem flush_asid (w : World) (b : Nat) (T : Nat → Ln) (fo mi vm x : Int) (h : IsTlb w b T fo mi) :
    Calls Tryz.prog 145 #[.pointer (some ⟨b, 0, none⟩), .int .i64 vm, .int .i64 x] w fun e w' =>
      e = .returned (.int .i64 (cnt (fun l => l.v == vm && l.a == x) T 8)) ∧ Fr (at' b) w w' ∧ IsTlb w' b (wipe (fun l => l.v == vm && l.a == x) T) fo mi := by
  have hb := h.lt
  have c1 := cell_of_alloc w (.int .i64 vm) 3
  have h1 := h.alloc (.cells #[.int .i64 vm] 3)
  have f1 := (Fr.refl (at' b) w).alloc (.cells #[.int .i64 vm] 3)
  have hs : (w.alloc (.cells #[.int .i64 vm] 3)).heap.size = w.heap.size + 1 := by simp
  have c2 := cell_of_alloc (w.alloc (.cells #[.int .i64 vm] 3)) (.int .i64 x) 3
  rw [hs] at c2
  have c3 := cell_keep ((Fr.refl none' (w.alloc (.cells #[.int .i64 vm] 3))).alloc (.cells #[.int .i64 x] 3)) c1 (fun h => h)
  have h2 := h1.alloc (.cells #[.int .i64 x] 3)
  have f2 := f1.alloc (.cells #[.int .i64 x] 3)
  have ht := test_asid _ b _ _ vm x c3 c2 (by omega) (by omega)
  clear hs c1 c2 c3 h1 f1
  go_enter Tryz.func145, Tryz.ntmps145
  go_wp2_with fail
  refine (forget_any _ _ _ _ _ h2 _ _ _ ht).mono ?_
  rintro e w1 ⟨rfl, f3, h3⟩
  go_wp2_with fail
  go_ret
  exact ⟨rfl, f2.trans f3, h3⟩

set_option maxHeartbeats 400000 in
theorem flush_all (w : World) (b : Nat) (T : Nat → Ln) (fo mi : Int) (h : IsTlb w b T fo mi) :
    Calls Tryz.prog 25 #[.pointer (some ⟨b, 0, none⟩)] w fun e w' =>
      e = .returned (.int .i64 (cnt (fun _ => true) T 8)) ∧ Fr (at' b) w w' ∧ IsTlb w' b (wipe (fun _ => true) T) fo mi := by
  have ht := test_all w b
  go_enter Tryz.func25, Tryz.ntmps25
  go_wp2_with fail
  refine (forget_any _ _ _ _ _ h _ _ _ ht).mono ?_
  rintro e w1 ⟨rfl, f3, h3⟩
  go_wp2_with fail
  go_ret
  exact ⟨rfl, f3, h3⟩

end Go.Proofs.YtgnoakidjnilpaaGreat
