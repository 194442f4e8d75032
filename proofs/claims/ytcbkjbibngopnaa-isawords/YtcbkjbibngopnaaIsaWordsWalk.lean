/-
  The walk of the law IsaWords: for every input the law returns true and nothing old turns.
-/
import Derived.Test.YtcbkjbibngopnaaIsaInts
namespace Go.Proofs.Ytcbkjbibngopnaa
open Go.RowKit

set_option maxHeartbeats 3200000 in
set_option maxRecDepth 100000 in
theorem words_fr (o a b c i op : Int) (x : Nat) (hx : x < 4294967296) (w : World) :
    Calls Try.prog 3 #[.agg #[.int .i64 o, .int .i64 a, .int .i64 b, .int .i64 c, .int .i64 i], .int .u32 (x : Int), .int .i64 op] w fun e w' => e = .returned (.bool true) ∧ Fr none' w w' := by
  have f0 := (Fr.refl none' w).alloc (.cells (ibox o a b c i) 23)
  have r0 := row_alloc w (ibox o a b c i) 23
  unfold ibox at f0
  have A1 := right_any o a b c i
  have A2 := rright_any o a b c i
  have A3 := enc_any o a b c i
  have A4 := renc_any o a b c i
  have A5 := fun w => dec_any x w hx
  have A6 := fun w => rdec_any x w hx
  have A7 := kind_any op
  have A8 := rkind_any op
  generalize rightI o a b c i = v1 at *
  generalize encW o a b c i = v2 at *
  generalize encE o a b c i = v3 at *
  generalize dOp x = p1 at *
  generalize dA x = p2 at *
  generalize dB x = p3 at *
  generalize dC x = p4 at *
  generalize dI x = p5 at *
  generalize dE x = v4 at *
  generalize fs (kf op) = v5 at *
  have tv1 : (v1 == v1) = true := by simp
  have tv2 : (v2 == v2) = true := by simp
  have tv3 : (v3 == v3) = true := by simp
  have tv4 : (v4 == v4) = true := by simp
  have tp1 : (p1 == p1) = true := by simp
  have tp2 : (p2 == p2) = true := by simp
  have tp3 : (p3 == p3) = true := by simp
  have tp4 : (p4 == p4) = true := by simp
  have tp5 : (p5 == p5) = true := by simp
  have heq := eq_instr
  clear hx
  go_enter Try.func3, Try.ntmps3
  go_wp2_with fail
  refine (awake_any _).mono ?_
  rintro e x1 ⟨rfl, f1⟩
  replace r0 := r0.keep f1 (fun h => h)
  replace f0 := f0.trans f1
  clear f1
  obtain ⟨r0c0, r0c1, r0c2, r0c3, r0c4⟩ := ibox_cells r0
  go_wp2_with fail
  refine (A1 _).mono ?_
  rintro e x2 ⟨rfl, f1⟩
  replace r0 := r0.keep f1 (fun h => h)
  replace f0 := f0.trans f1
  clear f1
  clear r0c0 r0c1 r0c2 r0c3 r0c4
  obtain ⟨r0c0, r0c1, r0c2, r0c3, r0c4⟩ := ibox_cells r0
  go_wp2_with fail
  refine (A2 _).mono ?_
  rintro e x3 ⟨rfl, f1⟩
  replace r0 := r0.keep f1 (fun h => h)
  replace f0 := f0.trans f1
  clear f1
  clear r0c0 r0c1 r0c2 r0c3 r0c4
  obtain ⟨r0c0, r0c1, r0c2, r0c3, r0c4⟩ := ibox_cells r0
  go_wp2_with fail
  refine (A3 _).mono ?_
  rintro e x4 ⟨rfl, f1⟩
  replace r0 := r0.keep f1 (fun h => h)
  replace f0 := f0.trans f1
  clear f1
  clear r0c0 r0c1 r0c2 r0c3 r0c4
  obtain ⟨r0c0, r0c1, r0c2, r0c3, r0c4⟩ := ibox_cells r0
  go_wp2_with fail
  refine (A4 _).mono ?_
  rintro e x5 ⟨rfl, f1⟩
  replace r0 := r0.keep f1 (fun h => h)
  replace f0 := f0.trans f1
  clear f1
  clear r0c0 r0c1 r0c2 r0c3 r0c4
  obtain ⟨r0c0, r0c1, r0c2, r0c3, r0c4⟩ := ibox_cells r0
  go_wp2_with fail
  refine (A5 _).mono ?_
  rintro e x6 ⟨rfl, f1⟩
  replace r0 := r0.keep f1 (fun h => h)
  replace f0 := f0.trans f1
  clear f1
  replace r0 := r0.alloc (.cells (ibox p1 p2 p3 p4 p5) 23)
  have r1 := row_alloc x6 (ibox p1 p2 p3 p4 p5) 23
  replace f0 := f0.alloc (.cells (ibox p1 p2 p3 p4 p5) 23)
  unfold ibox at f0
  go_wp2_with fail
  refine (A6 _).mono ?_
  rintro e x7 ⟨rfl, f1⟩
  replace r0 := r0.keep f1 (fun h => h)
  replace r1 := r1.keep f1 (fun h => h)
  replace f0 := f0.trans f1
  clear f1
  replace r0 := r0.alloc (.cells (ibox p1 p2 p3 p4 p5) 23)
  replace r1 := r1.alloc (.cells (ibox p1 p2 p3 p4 p5) 23)
  have r2 := row_alloc x7 (ibox p1 p2 p3 p4 p5) 23
  replace f0 := f0.alloc (.cells (ibox p1 p2 p3 p4 p5) 23)
  unfold ibox at f0
  go_wp2_with fail
  refine (A7 _).mono ?_
  rintro e x8 ⟨rfl, f1⟩
  replace r0 := r0.keep f1 (fun h => h)
  replace r1 := r1.keep f1 (fun h => h)
  replace r2 := r2.keep f1 (fun h => h)
  replace f0 := f0.trans f1
  clear f1
  obtain ⟨r1c0, r1c1, r1c2, r1c3, r1c4⟩ := ibox_cells r1
  obtain ⟨r2c0, r2c1, r2c2, r2c3, r2c4⟩ := ibox_cells r2
  go_wp2_with fail
  refine (A8 _).mono ?_
  rintro e x9 ⟨rfl, rfl⟩
  go_wp2_with fail
  go_ret
  exact ⟨rfl, f0⟩

theorem words_any (o a b c i op : Int) (x : Nat) (hx : x < 4294967296) (w : World) :
    Calls Try.prog 3 #[.agg #[.int .i64 o, .int .i64 a, .int .i64 b, .int .i64 c, .int .i64 i], .int .u32 (x : Int), .int .i64 op] w fun e w' => e = .returned (.bool true) ∧ Below w.heap.size w w' :=
  (words_fr o a b c i op x hx w).mono fun _ _ ⟨he, hf⟩ => ⟨he, hf.below (Nat.le_refl _) (fun _ h => h.elim)⟩

end Go.Proofs.Ytcbkjbibngopnaa
