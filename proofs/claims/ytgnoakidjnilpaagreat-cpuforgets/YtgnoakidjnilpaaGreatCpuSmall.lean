/-
  The contracts of package cpu's small methods of an instruction under way. No statement is proved here.
-/
import Derived.Test.YtgnoakidjnilpaaGreatCpuDefs
import Derived.Deep.RegionHeld3
import Derived.Deep.QuietTactic
import Derived.BigQuiet
namespace Go.Proofs.YtgnoakidjnilpaaGreat
open Go.RowKit

theorem and16 (n : Int) : bits .and .i64 n 65535 = n % 65536 := by
  have h16 : (BitVec.ofInt 64 65535).toNat = 2 ^ 16 - 1 := by decide
  have key : (BitVec.ofInt 64 n &&& BitVec.ofInt 64 65535).toNat = (n % ((2 ^ 64 : Nat) : Int)).toNat % 2 ^ 16 := by
    rw [BitVec.toNat_and, BitVec.toNat_ofInt, h16, Nat.and_two_pow_sub_one_eq_mod]
  show IntKind.i64.wrap ((BitVec.ofInt 64 n &&& BitVec.ofInt 64 65535).toNat : Nat) = n % 65536
  rw [key, IntKind.wrap_i64]
  omega

set_option maxHeartbeats 400000 in
theorem a_any (w : World) (bx : Nat) (X : Wk) (h : IsW w bx X) (ha : X.a < 16) : Calls Tryz.prog 137 #[.pointer (some ⟨bx, 0, none⟩)] w fun e w' => e = .returned (.int .u32 ((X.z.r X.a : Nat) : Int)) ∧ ∃ m, w' = w.drewN m := by
  have i1 : 0 ≤ (X.a : Int) ∧ (X.a : Int) < 16 := by omega
  have c11 := h.k11
  have cr := h.reg ha
  clear h ha
  go_enter Tryz.func137, Tryz.ntmps137
  go_wp2_with fail
  go_quiet (fail)
  go_wp2_with fail
  go_ret
  exact ⟨rfl, _, rfl⟩

set_option maxHeartbeats 400000 in
theorem b_any (w : World) (bx : Nat) (X : Wk) (h : IsW w bx X) (ha : X.b < 16) : Calls Tryz.prog 133 #[.pointer (some ⟨bx, 0, none⟩)] w fun e w' => e = .returned (.int .u32 ((X.z.r X.b : Nat) : Int)) ∧ ∃ m, w' = w.drewN m := by
  have i1 : 0 ≤ (X.b : Int) ∧ (X.b : Int) < 16 := by omega
  have c12 := h.k12
  have cr := h.reg ha
  clear h ha
  go_enter Tryz.func133, Tryz.ntmps133
  go_wp2_with fail
  go_quiet (fail)
  go_wp2_with fail
  go_ret
  exact ⟨rfl, _, rfl⟩

set_option maxHeartbeats 400000 in
theorem setA_any (w : World) (bx : Nat) (X : Wk) (v : Nat) (h : IsW w bx X) (ha : X.a < 16) : Calls Tryz.prog 131 #[.pointer (some ⟨bx, 0, none⟩), .int .u32 (v : Int)] w fun e w' => (∃ u, e = .returned u) ∧ Fr (at' bx) w w' ∧ IsW w' bx { X with z := X.z.setR X.a v } := by
  have i1 : 0 ≤ (X.a : Int) ∧ (X.a : Int) < 16 := by omega
  have c11 := h.k11
  have cr := h.reg ha
  have z := h.frozen (15 + X.a)
  have H : Hid (IsW w bx X) := h
  clear h
  go_enter Tryz.func131, Tryz.ntmps131
  go_wp2_with fail
  go_region
  go_wp2_with fail
  refine post_void rfl rfl fun u => ?_
  exact ⟨⟨u, rfl⟩, fr_set w bx (15 + X.a) _ (Fr.refl _ w).drew, H.out.drew.setR ha⟩

set_option maxHeartbeats 400000 in
theorem behind_any (w : World) (bx : Nat) (X : Wk) (h : IsW w bx X) (hp : 0 ≤ X.pc ∧ X.pc ≤ 65535) : Calls Tryz.prog 74 #[.pointer (some ⟨bx, 0, none⟩)] w fun e w' => e = .returned (.int .i64 ((X.pc + 4) % 65536)) ∧ w' = w := by
  have c8 := h.k8
  clear h
  have e1 := and16 (X.pc + 4)
  have e2 : IntKind.i64.wrap (X.pc + 4) = X.pc + 4 := by rw [IntKind.wrap_i64]; omega
  go_enter Tryz.func74, Tryz.ntmps74
  go_wp2_with fail
  go_ret
  exact ⟨rfl, rfl⟩

theorem zero_trap (w : World) : Sem.run Tryz.prog (zeroValue 52) w = .ok (.agg (trL t0)) w := by kernel_rfl
theorem size_trap : (Tryz.prog.info? 52).map (·.size) = some 8 := by kernel_rfl

theorem ret_trap {fn : Func} {p : Tmp} {tmps : Array Value} {g : Nat} {cs : Array Value} {w : World} (h : fn.results = #[.cell p 52]) (hp : tmps.getD p undef = .pointer (some ⟨g, 0, none⟩)) (hr : Row w g cs 52) (hs : cs.size = 8) :
    (results fn tmps).run Tryz.prog w = .ok (.agg cs) w :=
  results_cell_row h tmps w g _ cs (0, 0) _ hp hr Tryz.underlying52 rfl (by rw [hs]; exact size_trap)

set_option maxHeartbeats 400000 in
theorem wtrap_any (w : World) (bx : Nat) (X : Wk) (ca nu : Int) (h : IsW w bx X) : Calls Tryz.prog 140 #[.pointer (some ⟨bx, 0, none⟩), .int .i64 ca, .int .i64 nu] w fun e w' => e = .returned (.agg #[.int .i64 ca, .int .i64 nu, .int .i64 X.pc, .int .i64 0, .int .i64 0, .int .i64 0, .bool false, .int .i64 0]) ∧ Fr none' w w' := by
  have c8 := (h.alloc (.cells (trL t0) 52)).k8
  clear h
  unfold trL t0 f0 at c8
  go_enter Tryz.func140, Tryz.ntmps140
  go_wp2_with fail
  refine bodyPost_ret (ret_trap rfl rfl (row_alloc _ _ _) rfl) rfl ?_
  exact ⟨rfl, (Fr.refl _ w).alloc _⟩

/-- Eight cells of a block, as they are and as they are laid. -/
theorem cells8 {w : World} {g : Nat} {c0 c1 c2 c3 c4 c5 c6 c7 : Value} {t : TypeId} (h : Row w g #[c0, c1, c2, c3, c4, c5, c6, c7] t) :
    w.cell? ⟨g, 0, none⟩ = some c0 ∧ w.cell? ⟨g, 1, none⟩ = some c1 ∧ w.cell? ⟨g, 2, none⟩ = some c2 ∧ w.cell? ⟨g, 3, none⟩ = some c3 ∧ w.cell? ⟨g, 4, none⟩ = some c4 ∧ w.cell? ⟨g, 5, none⟩ = some c5 ∧ w.cell? ⟨g, 6, none⟩ = some c6 ∧ w.cell? ⟨g, 7, none⟩ = some c7 := ⟨h.cell 0, h.cell 1, h.cell 2, h.cell 3, h.cell 4, h.cell 5, h.cell 6, h.cell 7⟩
theorem frozen8 {w : World} {g : Nat} {cs : Array Value} {t : TypeId} (h : Row w g cs t) :
    w.frozen? ⟨g, 0, none⟩ = false ∧ w.frozen? ⟨g, 1, none⟩ = false ∧ w.frozen? ⟨g, 2, none⟩ = false ∧ w.frozen? ⟨g, 3, none⟩ = false ∧ w.frozen? ⟨g, 4, none⟩ = false ∧ w.frozen? ⟨g, 5, none⟩ = false ∧ w.frozen? ⟨g, 6, none⟩ = false ∧ w.frozen? ⟨g, 7, none⟩ = false := ⟨h.frozen 0, h.frozen 1, h.frozen 2, h.frozen 3, h.frozen 4, h.frozen 5, h.frozen 6, h.frozen 7⟩
theorem row_set8 {w : World} {g : Nat} {c0 c1 c2 c3 c4 c5 c6 c7 : Value} {t : TypeId} (h : Row w g #[c0, c1, c2, c3, c4, c5, c6, c7] t) (v0 v1 v2 v3 v4 v5 v6 v7 : Value) : Row ((((((((w.setCell ⟨g, 0, none⟩ v0).setCell ⟨g, 1, none⟩ v1).setCell ⟨g, 2, none⟩ v2).setCell ⟨g, 3, none⟩ v3).setCell ⟨g, 4, none⟩ v4).setCell ⟨g, 5, none⟩ v5).setCell ⟨g, 6, none⟩ v6).setCell ⟨g, 7, none⟩ v7) g #[v0, v1, v2, v3, v4, v5, v6, v7] t := by
  simpa using ((((((((h.setCell 0 v0).setCell 1 v1).setCell 2 v2).setCell 3 v3).setCell 4 v4).setCell 5 v5).setCell 6 v6).setCell 7 v7)
theorem fr_set8 {S : Nat → Prop} {w w1 : World} {g : Nat} (h : Fr S w w1) (hg : w.heap.size ≤ g ∨ S g) (v0 v1 v2 v3 v4 v5 v6 v7 : Value) : Fr S w ((((((((w1.setCell ⟨g, 0, none⟩ v0).setCell ⟨g, 1, none⟩ v1).setCell ⟨g, 2, none⟩ v2).setCell ⟨g, 3, none⟩ v3).setCell ⟨g, 4, none⟩ v4).setCell ⟨g, 5, none⟩ v5).setCell ⟨g, 6, none⟩ v6).setCell ⟨g, 7, none⟩ v7) :=
  ((((((((h.setCell (p := ⟨g, 0, none⟩) hg v0).setCell (p := ⟨g, 1, none⟩) hg v1).setCell (p := ⟨g, 2, none⟩) hg v2).setCell (p := ⟨g, 3, none⟩) hg v3).setCell (p := ⟨g, 4, none⟩) hg v4).setCell (p := ⟨g, 5, none⟩) hg v5).setCell (p := ⟨g, 6, none⟩) hg v6).setCell (p := ⟨g, 7, none⟩) hg v7)

end Go.Proofs.YtgnoakidjnilpaaGreat
