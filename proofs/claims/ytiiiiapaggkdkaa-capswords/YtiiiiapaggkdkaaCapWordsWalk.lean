/-
  The walk of the law CapsWords: for every cap and every word the law returns true, and nothing old turns.
-/
import Derived.Test.YtiiiiapaggkdkaaCapAwake
import Derived.Test.YtiiiiapaggkdkaaCapRefD
namespace Go.Proofs.Ytiiiiapaggkdkaa
open Go.RowKit

set_option maxRecDepth 100000 in
set_option maxHeartbeats 1600000 in
theorem words_walk (k o r b x g n : Int) (d : Bool) (y : Nat) (w : World) (hr : I64 r) (hy : y < 18446744073709551616) : Calls Try.prog 3 #[.agg #[.int .i64 k, .int .i64 o, .int .i64 r, .int .i64 b, .int .i64 x, .int .i64 g, .int .i64 n, .bool d], .int .u64 (y : Int)] w fun e w' => e = .returned (.bool true) ∧ Fr none' w w' := by
  have f0 := ((Fr.refl none' w).alloc (.cells (cbox k o r b x g n d) 23))
  have rc := row_alloc w (cbox k o r b x g n d) 23
  unfold cbox at f0 rc
  have R1 := fun w => right_any k o r b x g n d w hr
  have R2 := fun w => rright_any k o r b x g n d w
  have E1 := fun w => enc_any k o r b x g n d w hr
  have E2 := fun w => renc_any k o r b x g n d w
  have D1 := fun w => dec_any y w hy
  have D2 := fun w => rdec_any y w hy
  generalize rightC (K.mk k o r b x g n d) = v1 at *
  generalize encW (K.mk k o r b x g n d) = v2 at *
  generalize encE (K.mk k o r b x g n d) = v3 at *
  generalize decC y = v4 at *
  generalize decE y = v5 at *
  obtain ⟨k3, o3, r3, b3, x3, g3, n3, d3⟩ := v4
  dsimp only at D1 D2
  have t1 : (v1 == v1) = true := by simp
  have t2 : (v2 == v2) = true := by simp
  have t3 : (v3 == v3) = true := by simp
  have t5 : (v5 == v5) = true := by simp
  have heq := fun w => eq_cap k3 o3 r3 b3 x3 g3 n3 k3 o3 r3 b3 x3 g3 n3 d3 d3 w
  rw [eqK_self] at heq
  go_enter Try.func3, Try.ntmps3
  obtain ⟨rcc0, rcc1, rcc2, rcc3, rcc4, rcc5, rcc6, rcc7⟩ := cbox_cells rc
  go_wp2_with fail
  refine (awake_any _).mono ?_
  rintro e w1 ⟨rfl, f1⟩
  clear rcc0 rcc1 rcc2 rcc3 rcc4 rcc5 rcc6 rcc7
  replace rc := rc.keep f1 (fun h => h)
  replace f0 := f0.trans f1
  clear f1
  obtain ⟨rcc0, rcc1, rcc2, rcc3, rcc4, rcc5, rcc6, rcc7⟩ := cbox_cells rc
  go_wp2_with fail
  refine (R1 _).mono ?_
  rintro e w2 ⟨rfl, f1⟩
  clear rcc0 rcc1 rcc2 rcc3 rcc4 rcc5 rcc6 rcc7
  replace rc := rc.keep f1 (fun h => h)
  replace f0 := f0.trans f1
  clear f1
  obtain ⟨rcc0, rcc1, rcc2, rcc3, rcc4, rcc5, rcc6, rcc7⟩ := cbox_cells rc
  go_wp2_with fail
  refine (R2 _).mono ?_
  rintro e w3 ⟨rfl, f1⟩
  clear rcc0 rcc1 rcc2 rcc3 rcc4 rcc5 rcc6 rcc7
  replace rc := rc.keep f1 (fun h => h)
  replace f0 := f0.trans f1
  clear f1
  obtain ⟨rcc0, rcc1, rcc2, rcc3, rcc4, rcc5, rcc6, rcc7⟩ := cbox_cells rc
  go_wp2_with fail
  refine (E1 _).mono ?_
  rintro e w4 ⟨rfl, f1⟩
  clear rcc0 rcc1 rcc2 rcc3 rcc4 rcc5 rcc6 rcc7
  replace rc := rc.keep f1 (fun h => h)
  replace f0 := f0.trans f1
  clear f1
  obtain ⟨rcc0, rcc1, rcc2, rcc3, rcc4, rcc5, rcc6, rcc7⟩ := cbox_cells rc
  go_wp2_with fail
  refine (E2 _).mono ?_
  rintro e w5 ⟨rfl, f1⟩
  clear rcc0 rcc1 rcc2 rcc3 rcc4 rcc5 rcc6 rcc7
  replace rc := rc.keep f1 (fun h => h)
  replace f0 := f0.trans f1
  clear f1
  clear rc
  go_wp2_with fail
  refine (D1 _).mono ?_
  rintro e w6 ⟨rfl, f1⟩
  replace f0 := f0.trans f1
  clear f1
  have rd := row_alloc w6 (cbox k3 o3 r3 b3 x3 g3 n3 d3) 23
  replace f0 := f0.alloc (.cells (cbox k3 o3 r3 b3 x3 g3 n3 d3) 23)
  unfold cbox at f0 rd
  obtain ⟨rdc0, rdc1, rdc2, rdc3, rdc4, rdc5, rdc6, rdc7⟩ := cbox_cells rd
  go_wp2_with fail
  refine (D2 _).mono ?_
  rintro e w7 ⟨rfl, f1⟩
  clear rdc0 rdc1 rdc2 rdc3 rdc4 rdc5 rdc6 rdc7
  replace rd := rd.keep f1 (fun h => h)
  replace f0 := f0.trans f1
  clear f1
  have re := row_alloc w7 (cbox k3 o3 r3 b3 x3 g3 n3 d3) 23
  replace rd := rd.alloc (.cells (cbox k3 o3 r3 b3 x3 g3 n3 d3) 23)
  replace f0 := f0.alloc (.cells (cbox k3 o3 r3 b3 x3 g3 n3 d3) 23)
  unfold cbox at f0 rd re
  obtain ⟨rdc0, rdc1, rdc2, rdc3, rdc4, rdc5, rdc6, rdc7⟩ := cbox_cells rd
  obtain ⟨rec0, rec1, rec2, rec3, rec4, rec5, rec6, rec7⟩ := cbox_cells re
  go_wp2_with fail
  go_ret
  exact ⟨rfl, f0⟩

theorem words_any (k o r b x g n : Int) (d : Bool) (y : Nat) (hr : I64 r) (hy : y < 18446744073709551616) (w : World) : Calls Try.prog 3 #[.agg #[.int .i64 k, .int .i64 o, .int .i64 r, .int .i64 b, .int .i64 x, .int .i64 g, .int .i64 n, .bool d], .int .u64 (y : Int)] w fun e w' => e = .returned (.bool true) ∧ Below w.heap.size w w' :=
  (words_walk k o r b x g n d y w hr hy).mono fun _ _ ⟨he, hf⟩ => ⟨he, hf.below (Nat.le_refl _) (fun _ h => h.elim)⟩

end Go.Proofs.Ytiiiiapaggkdkaa
