/-
  The walk of the law CapsTwice: for every cap and all numbers the law returns true, and nothing old turns.
-/
import Derived.Test.YtiiiiapaggkdkaaCapAwake
import Derived.Test.YtiiiiapaggkdkaaCapLaws
namespace Go.Proofs.Ytiiiiapaggkdkaa
open Go.RowKit

set_option maxRecDepth 100000 in
set_option maxHeartbeats 1600000 in
theorem twice_err (k o r b x g n : Int) (d : Bool) (q s y : Int) (w : World) (he : (mintE (K.mk k o r b x g n d) y g n != 0) = true) : Calls Try.prog 7 #[.agg #[.int .i64 k, .int .i64 o, .int .i64 r, .int .i64 b, .int .i64 x, .int .i64 g, .int .i64 n, .bool d], .int .i64 q, .int .i64 s, .int .i64 y] w fun e w' => e = .returned (.bool true) ∧ Fr none' w w' := by
  have f0 := ((Fr.refl none' w).alloc (.cells (cbox k o r b x g n d) 23))
  have rc := row_alloc w (cbox k o r b x g n d) 23
  unfold cbox at f0 rc
  have M1 := fun w => mask_any k o r b x g n d q w
  have M3 := fun w => mask_any k o r b x g n d (bits .and .i64 q s) w
  rw [← masks] at M3
  have Mi := fun w => mint_any k o r b x g n d q y g n w
  generalize mintE (K.mk k o r b x g n d) y g n = z at *
  generalize mintC (K.mk k o r b x g n d) q y g n = u at *
  obtain ⟨k3, o3, r3, b3, x3, g3, n3, d3⟩ := u
  have Mj := fun w => mint_any k3 o3 r3 b3 x3 g3 n3 d3 s 0 g n w
  generalize mintC (K.mk k3 o3 r3 b3 x3 g3 n3 d3) s 0 g n = v at *
  generalize mintE (K.mk k3 o3 r3 b3 x3 g3 n3 d3) 0 g n = z2 at *
  obtain ⟨k4, o4, r4, b4, x4, g4, n4, d4⟩ := v
  dsimp only at Mj
  generalize maskC (K.mk k o r b x g n d) q = m at *
  obtain ⟨k2, o2, r2, b2, x2, g2, n2, d2⟩ := m
  have M2 := fun w => mask_any k2 o2 r2 b2 x2 g2 n2 d2 s w
  generalize maskC (K.mk k2 o2 r2 b2 x2 g2 n2 d2) s = m' at *
  obtain ⟨k5, o5, r5, b5, x5, g5, n5, d5⟩ := m'
  dsimp only at M1 M2 M3 Mi
  have heq := fun w => neq_cap k5 o5 r5 b5 x5 g5 n5 k5 o5 r5 b5 x5 g5 n5 d5 d5 w
  rw [eqK_self] at heq
  go_enter Try.func7, Try.ntmps7
  obtain ⟨rcc0, rcc1, rcc2, rcc3, rcc4, rcc5, rcc6, rcc7⟩ := cbox_cells rc
  go_wp2_with fail
  refine (awake_any _).mono ?_
  rintro e w1 ⟨rfl, f1⟩
  clear rcc0 rcc1 rcc2 rcc3 rcc4 rcc5 rcc6 rcc7
  replace rc := rc.keep f1 (fun h => h)
  replace f0 := f0.trans f1
  clear f1
  obtain ⟨rcc0, rcc1, rcc2, rcc3, rcc4, rcc5, rcc6, rcc7⟩ := cbox_cells rc
  go_wp2_with fail
  refine (M1 _).mono ?_
  rintro e w2 ⟨rfl, f1⟩
  clear rcc0 rcc1 rcc2 rcc3 rcc4 rcc5 rcc6 rcc7
  replace rc := rc.keep f1 (fun h => h)
  replace f0 := f0.trans f1
  clear f1
  have ra := row_alloc w2 (cbox k2 o2 r2 b2 x2 g2 n2 d2) 23
  replace rc := rc.alloc (.cells (cbox k2 o2 r2 b2 x2 g2 n2 d2) 23)
  replace f0 := f0.alloc (.cells (cbox k2 o2 r2 b2 x2 g2 n2 d2) 23)
  unfold cbox at f0 rc ra
  obtain ⟨rcc0, rcc1, rcc2, rcc3, rcc4, rcc5, rcc6, rcc7⟩ := cbox_cells rc
  obtain ⟨rac0, rac1, rac2, rac3, rac4, rac5, rac6, rac7⟩ := cbox_cells ra
  go_wp2_with fail
  refine (M2 _).mono ?_
  rintro e w3 ⟨rfl, f1⟩
  clear rcc0 rcc1 rcc2 rcc3 rcc4 rcc5 rcc6 rcc7 rac0 rac1 rac2 rac3 rac4 rac5 rac6 rac7
  replace rc := rc.keep f1 (fun h => h)
  replace ra := ra.keep f1 (fun h => h)
  replace f0 := f0.trans f1
  clear f1
  have rb := row_alloc w3 (cbox k5 o5 r5 b5 x5 g5 n5 d5) 23
  replace rc := rc.alloc (.cells (cbox k5 o5 r5 b5 x5 g5 n5 d5) 23)
  replace ra := ra.alloc (.cells (cbox k5 o5 r5 b5 x5 g5 n5 d5) 23)
  replace f0 := f0.alloc (.cells (cbox k5 o5 r5 b5 x5 g5 n5 d5) 23)
  unfold cbox at f0 rc ra rb
  clear ra
  obtain ⟨rcc0, rcc1, rcc2, rcc3, rcc4, rcc5, rcc6, rcc7⟩ := cbox_cells rc
  obtain ⟨rbc0, rbc1, rbc2, rbc3, rbc4, rbc5, rbc6, rbc7⟩ := cbox_cells rb
  go_wp2_with fail
  refine (M3 _).mono ?_
  rintro e w4 ⟨rfl, f1⟩
  clear rcc0 rcc1 rcc2 rcc3 rcc4 rcc5 rcc6 rcc7 rbc0 rbc1 rbc2 rbc3 rbc4 rbc5 rbc6 rbc7
  replace rc := rc.keep f1 (fun h => h)
  replace rb := rb.keep f1 (fun h => h)
  replace f0 := f0.trans f1
  clear f1
  have rd := row_alloc w4 (cbox k5 o5 r5 b5 x5 g5 n5 d5) 23
  replace rc := rc.alloc (.cells (cbox k5 o5 r5 b5 x5 g5 n5 d5) 23)
  replace rb := rb.alloc (.cells (cbox k5 o5 r5 b5 x5 g5 n5 d5) 23)
  replace f0 := f0.alloc (.cells (cbox k5 o5 r5 b5 x5 g5 n5 d5) 23)
  unfold cbox at f0 rc rb rd
  obtain ⟨rcc0, rcc1, rcc2, rcc3, rcc4, rcc5, rcc6, rcc7⟩ := cbox_cells rc
  obtain ⟨rbc0, rbc1, rbc2, rbc3, rbc4, rbc5, rbc6, rbc7⟩ := cbox_cells rb
  obtain ⟨rdc0, rdc1, rdc2, rdc3, rdc4, rdc5, rdc6, rdc7⟩ := cbox_cells rd
  go_wp2_with fail
  refine (Mi _).mono ?_
  rintro e w5 ⟨rfl, f1⟩
  clear rcc0 rcc1 rcc2 rcc3 rcc4 rcc5 rcc6 rcc7 rbc0 rbc1 rbc2 rbc3 rbc4 rbc5 rbc6 rbc7 rdc0 rdc1 rdc2 rdc3 rdc4 rdc5 rdc6 rdc7
  replace rc := rc.keep f1 (fun h => h)
  replace rb := rb.keep f1 (fun h => h)
  replace rd := rd.keep f1 (fun h => h)
  replace f0 := f0.trans f1
  clear f1
  have rx := row_alloc w5 (cbox k3 o3 r3 b3 x3 g3 n3 d3) 23
  replace rc := rc.alloc (.cells (cbox k3 o3 r3 b3 x3 g3 n3 d3) 23)
  replace rb := rb.alloc (.cells (cbox k3 o3 r3 b3 x3 g3 n3 d3) 23)
  replace rd := rd.alloc (.cells (cbox k3 o3 r3 b3 x3 g3 n3 d3) 23)
  replace f0 := f0.alloc (.cells (cbox k3 o3 r3 b3 x3 g3 n3 d3) 23)
  unfold cbox at f0 rc rb rd rx
  clear rb rd
  obtain ⟨rcc0, rcc1, rcc2, rcc3, rcc4, rcc5, rcc6, rcc7⟩ := cbox_cells rc
  obtain ⟨rxc0, rxc1, rxc2, rxc3, rxc4, rxc5, rxc6, rxc7⟩ := cbox_cells rx
  go_wp2_with fail
  refine (Mj _).mono ?_
  rintro e w6 ⟨rfl, f1⟩
  clear rcc0 rcc1 rcc2 rcc3 rcc4 rcc5 rcc6 rcc7 rxc0 rxc1 rxc2 rxc3 rxc4 rxc5 rxc6 rxc7
  replace rc := rc.keep f1 (fun h => h)
  replace rx := rx.keep f1 (fun h => h)
  replace f0 := f0.trans f1
  clear f1
  have ry := row_alloc w6 (cbox k4 o4 r4 b4 x4 g4 n4 d4) 23
  replace rc := rc.alloc (.cells (cbox k4 o4 r4 b4 x4 g4 n4 d4) 23)
  replace rx := rx.alloc (.cells (cbox k4 o4 r4 b4 x4 g4 n4 d4) 23)
  replace f0 := f0.alloc (.cells (cbox k4 o4 r4 b4 x4 g4 n4 d4) 23)
  unfold cbox at f0 rc rx ry
  obtain ⟨rcc0, rcc1, rcc2, rcc3, rcc4, rcc5, rcc6, rcc7⟩ := cbox_cells rc
  obtain ⟨rxc0, rxc1, rxc2, rxc3, rxc4, rxc5, rxc6, rxc7⟩ := cbox_cells rx
  obtain ⟨ryc0, ryc1, ryc2, ryc3, ryc4, ryc5, ryc6, ryc7⟩ := cbox_cells ry
  go_wp2_with fail
  go_ret
  exact ⟨rfl, f0⟩

set_option maxRecDepth 100000 in
set_option maxHeartbeats 1600000 in
theorem twice_in (k o r b x g n : Int) (d : Bool) (q s y : Int) (w : World) (he : mintE (K.mk k o r b x g n d) y g n = 0) (hk : k = 4 ∨ k = 5 ∨ k = 6) : Calls Try.prog 7 #[.agg #[.int .i64 k, .int .i64 o, .int .i64 r, .int .i64 b, .int .i64 x, .int .i64 g, .int .i64 n, .bool d], .int .i64 q, .int .i64 s, .int .i64 y] w fun e w' => e = .returned (.bool true) ∧ Fr none' w w' := by
  have f0 := ((Fr.refl none' w).alloc (.cells (cbox k o r b x g n d) 23))
  have rc := row_alloc w (cbox k o r b x g n d) 23
  unfold cbox at f0 rc
  have M1 := fun w => mask_any k o r b x g n d q w
  have M3 := fun w => mask_any k o r b x g n d (bits .and .i64 q s) w
  rw [← masks] at M3
  have Mi := fun w => mint_any k o r b x g n d q y g n w
  obtain ⟨a1, a2, a3⟩ := mint_again (K.mk k o r b x g n d) q y s he
  have hkk := (mint_same (K.mk k o r b x g n d) q y g n he).2.2.2.2
  dsimp only at a1 a2 a3 hkk
  have a4 := a3 hk
  clear a3 hk
  rw [he] at Mi
  clear he
  generalize mintC (K.mk k o r b x g n d) q y g n = u at *
  obtain ⟨k3, o3, r3, b3, x3, g3, n3, d3⟩ := u
  have Mj := fun w => mint_any k3 o3 r3 b3 x3 g3 n3 d3 s 0 g n w
  rw [a1] at Mj
  clear a1
  generalize mintC (K.mk k3 o3 r3 b3 x3 g3 n3 d3) s 0 g n = v at *
  obtain ⟨k4, o4, r4, b4, x4, g4, n4, d4⟩ := v
  dsimp only at Mi Mj a2 hkk a4
  generalize maskC (K.mk k o r b x g n d) q = m at *
  obtain ⟨k2, o2, r2, b2, x2, g2, n2, d2⟩ := m
  have M2 := fun w => mask_any k2 o2 r2 b2 x2 g2 n2 d2 s w
  generalize maskC (K.mk k2 o2 r2 b2 x2 g2 n2 d2) s = m' at *
  obtain ⟨k5, o5, r5, b5, x5, g5, n5, d5⟩ := m'
  dsimp only at M1 M2 M3 Mi
  have heq := fun w => neq_cap k5 o5 r5 b5 x5 g5 n5 k5 o5 r5 b5 x5 g5 n5 d5 d5 w
  rw [eqK_self] at heq
  have hr : (r4 == bits .and .i64 r3 s) = true := by rw [a4]; simp
  clear a4 hkk
  have hb : (b4 == b3) = true := by rw [a2]; simp
  clear a2
  go_enter Try.func7, Try.ntmps7
  obtain ⟨rcc0, rcc1, rcc2, rcc3, rcc4, rcc5, rcc6, rcc7⟩ := cbox_cells rc
  go_wp2_with fail
  refine (awake_any _).mono ?_
  rintro e w1 ⟨rfl, f1⟩
  clear rcc0 rcc1 rcc2 rcc3 rcc4 rcc5 rcc6 rcc7
  replace rc := rc.keep f1 (fun h => h)
  replace f0 := f0.trans f1
  clear f1
  obtain ⟨rcc0, rcc1, rcc2, rcc3, rcc4, rcc5, rcc6, rcc7⟩ := cbox_cells rc
  go_wp2_with fail
  refine (M1 _).mono ?_
  rintro e w2 ⟨rfl, f1⟩
  clear rcc0 rcc1 rcc2 rcc3 rcc4 rcc5 rcc6 rcc7
  replace rc := rc.keep f1 (fun h => h)
  replace f0 := f0.trans f1
  clear f1
  have ra := row_alloc w2 (cbox k2 o2 r2 b2 x2 g2 n2 d2) 23
  replace rc := rc.alloc (.cells (cbox k2 o2 r2 b2 x2 g2 n2 d2) 23)
  replace f0 := f0.alloc (.cells (cbox k2 o2 r2 b2 x2 g2 n2 d2) 23)
  unfold cbox at f0 rc ra
  obtain ⟨rcc0, rcc1, rcc2, rcc3, rcc4, rcc5, rcc6, rcc7⟩ := cbox_cells rc
  obtain ⟨rac0, rac1, rac2, rac3, rac4, rac5, rac6, rac7⟩ := cbox_cells ra
  go_wp2_with fail
  refine (M2 _).mono ?_
  rintro e w3 ⟨rfl, f1⟩
  clear rcc0 rcc1 rcc2 rcc3 rcc4 rcc5 rcc6 rcc7 rac0 rac1 rac2 rac3 rac4 rac5 rac6 rac7
  replace rc := rc.keep f1 (fun h => h)
  replace ra := ra.keep f1 (fun h => h)
  replace f0 := f0.trans f1
  clear f1
  have rb := row_alloc w3 (cbox k5 o5 r5 b5 x5 g5 n5 d5) 23
  replace rc := rc.alloc (.cells (cbox k5 o5 r5 b5 x5 g5 n5 d5) 23)
  replace ra := ra.alloc (.cells (cbox k5 o5 r5 b5 x5 g5 n5 d5) 23)
  replace f0 := f0.alloc (.cells (cbox k5 o5 r5 b5 x5 g5 n5 d5) 23)
  unfold cbox at f0 rc ra rb
  clear ra
  obtain ⟨rcc0, rcc1, rcc2, rcc3, rcc4, rcc5, rcc6, rcc7⟩ := cbox_cells rc
  obtain ⟨rbc0, rbc1, rbc2, rbc3, rbc4, rbc5, rbc6, rbc7⟩ := cbox_cells rb
  go_wp2_with fail
  refine (M3 _).mono ?_
  rintro e w4 ⟨rfl, f1⟩
  clear rcc0 rcc1 rcc2 rcc3 rcc4 rcc5 rcc6 rcc7 rbc0 rbc1 rbc2 rbc3 rbc4 rbc5 rbc6 rbc7
  replace rc := rc.keep f1 (fun h => h)
  replace rb := rb.keep f1 (fun h => h)
  replace f0 := f0.trans f1
  clear f1
  have rd := row_alloc w4 (cbox k5 o5 r5 b5 x5 g5 n5 d5) 23
  replace rc := rc.alloc (.cells (cbox k5 o5 r5 b5 x5 g5 n5 d5) 23)
  replace rb := rb.alloc (.cells (cbox k5 o5 r5 b5 x5 g5 n5 d5) 23)
  replace f0 := f0.alloc (.cells (cbox k5 o5 r5 b5 x5 g5 n5 d5) 23)
  unfold cbox at f0 rc rb rd
  obtain ⟨rcc0, rcc1, rcc2, rcc3, rcc4, rcc5, rcc6, rcc7⟩ := cbox_cells rc
  obtain ⟨rbc0, rbc1, rbc2, rbc3, rbc4, rbc5, rbc6, rbc7⟩ := cbox_cells rb
  obtain ⟨rdc0, rdc1, rdc2, rdc3, rdc4, rdc5, rdc6, rdc7⟩ := cbox_cells rd
  go_wp2_with fail
  refine (Mi _).mono ?_
  rintro e w5 ⟨rfl, f1⟩
  clear rcc0 rcc1 rcc2 rcc3 rcc4 rcc5 rcc6 rcc7 rbc0 rbc1 rbc2 rbc3 rbc4 rbc5 rbc6 rbc7 rdc0 rdc1 rdc2 rdc3 rdc4 rdc5 rdc6 rdc7
  replace rc := rc.keep f1 (fun h => h)
  replace rb := rb.keep f1 (fun h => h)
  replace rd := rd.keep f1 (fun h => h)
  replace f0 := f0.trans f1
  clear f1
  have rx := row_alloc w5 (cbox k3 o3 r3 b3 x3 g3 n3 d3) 23
  replace rc := rc.alloc (.cells (cbox k3 o3 r3 b3 x3 g3 n3 d3) 23)
  replace rb := rb.alloc (.cells (cbox k3 o3 r3 b3 x3 g3 n3 d3) 23)
  replace rd := rd.alloc (.cells (cbox k3 o3 r3 b3 x3 g3 n3 d3) 23)
  replace f0 := f0.alloc (.cells (cbox k3 o3 r3 b3 x3 g3 n3 d3) 23)
  unfold cbox at f0 rc rb rd rx
  clear rb rd
  obtain ⟨rcc0, rcc1, rcc2, rcc3, rcc4, rcc5, rcc6, rcc7⟩ := cbox_cells rc
  obtain ⟨rxc0, rxc1, rxc2, rxc3, rxc4, rxc5, rxc6, rxc7⟩ := cbox_cells rx
  go_wp2_with fail
  refine (Mj _).mono ?_
  rintro e w6 ⟨rfl, f1⟩
  clear rcc0 rcc1 rcc2 rcc3 rcc4 rcc5 rcc6 rcc7 rxc0 rxc1 rxc2 rxc3 rxc4 rxc5 rxc6 rxc7
  replace rc := rc.keep f1 (fun h => h)
  replace rx := rx.keep f1 (fun h => h)
  replace f0 := f0.trans f1
  clear f1
  have ry := row_alloc w6 (cbox k4 o4 r4 b4 x4 g4 n4 d4) 23
  replace rc := rc.alloc (.cells (cbox k4 o4 r4 b4 x4 g4 n4 d4) 23)
  replace rx := rx.alloc (.cells (cbox k4 o4 r4 b4 x4 g4 n4 d4) 23)
  replace f0 := f0.alloc (.cells (cbox k4 o4 r4 b4 x4 g4 n4 d4) 23)
  unfold cbox at f0 rc rx ry
  obtain ⟨rcc0, rcc1, rcc2, rcc3, rcc4, rcc5, rcc6, rcc7⟩ := cbox_cells rc
  obtain ⟨rxc0, rxc1, rxc2, rxc3, rxc4, rxc5, rxc6, rxc7⟩ := cbox_cells rx
  obtain ⟨ryc0, ryc1, ryc2, ryc3, ryc4, ryc5, ryc6, ryc7⟩ := cbox_cells ry
  go_wp2_with fail
  go_ret
  exact ⟨rfl, f0⟩

set_option maxRecDepth 100000 in
set_option maxHeartbeats 1600000 in
theorem twice_out (k o r b x g n : Int) (d : Bool) (q s y : Int) (w : World) (he : mintE (K.mk k o r b x g n d) y g n = 0) (h4 : (k != 4) = true) (h5 : (k != 5) = true) (h6 : (k != 6) = true) (z : Bool) (hz : ((mintC (mintC (K.mk k o r b x g n d) q y g n) s 0 g n).r == bits .and .i64 (mintC (K.mk k o r b x g n d) q y g n).r s) = z) : Calls Try.prog 7 #[.agg #[.int .i64 k, .int .i64 o, .int .i64 r, .int .i64 b, .int .i64 x, .int .i64 g, .int .i64 n, .bool d], .int .i64 q, .int .i64 s, .int .i64 y] w fun e w' => e = .returned (.bool true) ∧ Fr none' w w' := by
  have f0 := ((Fr.refl none' w).alloc (.cells (cbox k o r b x g n d) 23))
  have rc := row_alloc w (cbox k o r b x g n d) 23
  unfold cbox at f0 rc
  have M1 := fun w => mask_any k o r b x g n d q w
  have M3 := fun w => mask_any k o r b x g n d (bits .and .i64 q s) w
  rw [← masks] at M3
  have Mi := fun w => mint_any k o r b x g n d q y g n w
  obtain ⟨a1, a2, a3⟩ := mint_again (K.mk k o r b x g n d) q y s he
  have hkk := (mint_same (K.mk k o r b x g n d) q y g n he).2.2.2.2
  dsimp only at a1 a2 a3 hkk
  clear a3
  rw [he] at Mi
  clear he
  generalize mintC (K.mk k o r b x g n d) q y g n = u at *
  obtain ⟨k3, o3, r3, b3, x3, g3, n3, d3⟩ := u
  have Mj := fun w => mint_any k3 o3 r3 b3 x3 g3 n3 d3 s 0 g n w
  rw [a1] at Mj
  clear a1
  generalize mintC (K.mk k3 o3 r3 b3 x3 g3 n3 d3) s 0 g n = v at *
  obtain ⟨k4, o4, r4, b4, x4, g4, n4, d4⟩ := v
  dsimp only at Mi Mj a2 hkk hz
  generalize maskC (K.mk k o r b x g n d) q = m at *
  obtain ⟨k2, o2, r2, b2, x2, g2, n2, d2⟩ := m
  have M2 := fun w => mask_any k2 o2 r2 b2 x2 g2 n2 d2 s w
  generalize maskC (K.mk k2 o2 r2 b2 x2 g2 n2 d2) s = m' at *
  obtain ⟨k5, o5, r5, b5, x5, g5, n5, d5⟩ := m'
  dsimp only at M1 M2 M3 Mi
  have heq := fun w => neq_cap k5 o5 r5 b5 x5 g5 n5 k5 o5 r5 b5 x5 g5 n5 d5 d5 w
  rw [eqK_self] at heq
  rw [← hkk] at h4 h5 h6
  clear hkk
  cases z
  · have hb : (b4 == b3) = true := by rw [a2]; simp
    clear a2
    go_enter Try.func7, Try.ntmps7
    obtain ⟨rcc0, rcc1, rcc2, rcc3, rcc4, rcc5, rcc6, rcc7⟩ := cbox_cells rc
    go_wp2_with fail
    refine (awake_any _).mono ?_
    rintro e w1 ⟨rfl, f1⟩
    clear rcc0 rcc1 rcc2 rcc3 rcc4 rcc5 rcc6 rcc7
    replace rc := rc.keep f1 (fun h => h)
    replace f0 := f0.trans f1
    clear f1
    obtain ⟨rcc0, rcc1, rcc2, rcc3, rcc4, rcc5, rcc6, rcc7⟩ := cbox_cells rc
    go_wp2_with fail
    refine (M1 _).mono ?_
    rintro e w2 ⟨rfl, f1⟩
    clear rcc0 rcc1 rcc2 rcc3 rcc4 rcc5 rcc6 rcc7
    replace rc := rc.keep f1 (fun h => h)
    replace f0 := f0.trans f1
    clear f1
    have ra := row_alloc w2 (cbox k2 o2 r2 b2 x2 g2 n2 d2) 23
    replace rc := rc.alloc (.cells (cbox k2 o2 r2 b2 x2 g2 n2 d2) 23)
    replace f0 := f0.alloc (.cells (cbox k2 o2 r2 b2 x2 g2 n2 d2) 23)
    unfold cbox at f0 rc ra
    obtain ⟨rcc0, rcc1, rcc2, rcc3, rcc4, rcc5, rcc6, rcc7⟩ := cbox_cells rc
    obtain ⟨rac0, rac1, rac2, rac3, rac4, rac5, rac6, rac7⟩ := cbox_cells ra
    go_wp2_with fail
    refine (M2 _).mono ?_
    rintro e w3 ⟨rfl, f1⟩
    clear rcc0 rcc1 rcc2 rcc3 rcc4 rcc5 rcc6 rcc7 rac0 rac1 rac2 rac3 rac4 rac5 rac6 rac7
    replace rc := rc.keep f1 (fun h => h)
    replace ra := ra.keep f1 (fun h => h)
    replace f0 := f0.trans f1
    clear f1
    have rb := row_alloc w3 (cbox k5 o5 r5 b5 x5 g5 n5 d5) 23
    replace rc := rc.alloc (.cells (cbox k5 o5 r5 b5 x5 g5 n5 d5) 23)
    replace ra := ra.alloc (.cells (cbox k5 o5 r5 b5 x5 g5 n5 d5) 23)
    replace f0 := f0.alloc (.cells (cbox k5 o5 r5 b5 x5 g5 n5 d5) 23)
    unfold cbox at f0 rc ra rb
    clear ra
    obtain ⟨rcc0, rcc1, rcc2, rcc3, rcc4, rcc5, rcc6, rcc7⟩ := cbox_cells rc
    obtain ⟨rbc0, rbc1, rbc2, rbc3, rbc4, rbc5, rbc6, rbc7⟩ := cbox_cells rb
    go_wp2_with fail
    refine (M3 _).mono ?_
    rintro e w4 ⟨rfl, f1⟩
    clear rcc0 rcc1 rcc2 rcc3 rcc4 rcc5 rcc6 rcc7 rbc0 rbc1 rbc2 rbc3 rbc4 rbc5 rbc6 rbc7
    replace rc := rc.keep f1 (fun h => h)
    replace rb := rb.keep f1 (fun h => h)
    replace f0 := f0.trans f1
    clear f1
    have rd := row_alloc w4 (cbox k5 o5 r5 b5 x5 g5 n5 d5) 23
    replace rc := rc.alloc (.cells (cbox k5 o5 r5 b5 x5 g5 n5 d5) 23)
    replace rb := rb.alloc (.cells (cbox k5 o5 r5 b5 x5 g5 n5 d5) 23)
    replace f0 := f0.alloc (.cells (cbox k5 o5 r5 b5 x5 g5 n5 d5) 23)
    unfold cbox at f0 rc rb rd
    obtain ⟨rcc0, rcc1, rcc2, rcc3, rcc4, rcc5, rcc6, rcc7⟩ := cbox_cells rc
    obtain ⟨rbc0, rbc1, rbc2, rbc3, rbc4, rbc5, rbc6, rbc7⟩ := cbox_cells rb
    obtain ⟨rdc0, rdc1, rdc2, rdc3, rdc4, rdc5, rdc6, rdc7⟩ := cbox_cells rd
    go_wp2_with fail
    refine (Mi _).mono ?_
    rintro e w5 ⟨rfl, f1⟩
    clear rcc0 rcc1 rcc2 rcc3 rcc4 rcc5 rcc6 rcc7 rbc0 rbc1 rbc2 rbc3 rbc4 rbc5 rbc6 rbc7 rdc0 rdc1 rdc2 rdc3 rdc4 rdc5 rdc6 rdc7
    replace rc := rc.keep f1 (fun h => h)
    replace rb := rb.keep f1 (fun h => h)
    replace rd := rd.keep f1 (fun h => h)
    replace f0 := f0.trans f1
    clear f1
    have rx := row_alloc w5 (cbox k3 o3 r3 b3 x3 g3 n3 d3) 23
    replace rc := rc.alloc (.cells (cbox k3 o3 r3 b3 x3 g3 n3 d3) 23)
    replace rb := rb.alloc (.cells (cbox k3 o3 r3 b3 x3 g3 n3 d3) 23)
    replace rd := rd.alloc (.cells (cbox k3 o3 r3 b3 x3 g3 n3 d3) 23)
    replace f0 := f0.alloc (.cells (cbox k3 o3 r3 b3 x3 g3 n3 d3) 23)
    unfold cbox at f0 rc rb rd rx
    clear rb rd
    obtain ⟨rcc0, rcc1, rcc2, rcc3, rcc4, rcc5, rcc6, rcc7⟩ := cbox_cells rc
    obtain ⟨rxc0, rxc1, rxc2, rxc3, rxc4, rxc5, rxc6, rxc7⟩ := cbox_cells rx
    go_wp2_with fail
    refine (Mj _).mono ?_
    rintro e w6 ⟨rfl, f1⟩
    clear rcc0 rcc1 rcc2 rcc3 rcc4 rcc5 rcc6 rcc7 rxc0 rxc1 rxc2 rxc3 rxc4 rxc5 rxc6 rxc7
    replace rc := rc.keep f1 (fun h => h)
    replace rx := rx.keep f1 (fun h => h)
    replace f0 := f0.trans f1
    clear f1
    have ry := row_alloc w6 (cbox k4 o4 r4 b4 x4 g4 n4 d4) 23
    replace rc := rc.alloc (.cells (cbox k4 o4 r4 b4 x4 g4 n4 d4) 23)
    replace rx := rx.alloc (.cells (cbox k4 o4 r4 b4 x4 g4 n4 d4) 23)
    replace f0 := f0.alloc (.cells (cbox k4 o4 r4 b4 x4 g4 n4 d4) 23)
    unfold cbox at f0 rc rx ry
    obtain ⟨rcc0, rcc1, rcc2, rcc3, rcc4, rcc5, rcc6, rcc7⟩ := cbox_cells rc
    obtain ⟨rxc0, rxc1, rxc2, rxc3, rxc4, rxc5, rxc6, rxc7⟩ := cbox_cells rx
    obtain ⟨ryc0, ryc1, ryc2, ryc3, ryc4, ryc5, ryc6, ryc7⟩ := cbox_cells ry
    go_wp2_with fail
    go_ret
    exact ⟨rfl, f0⟩
  · have hb : (b4 == b3) = true := by rw [a2]; simp
    clear a2
    go_enter Try.func7, Try.ntmps7
    obtain ⟨rcc0, rcc1, rcc2, rcc3, rcc4, rcc5, rcc6, rcc7⟩ := cbox_cells rc
    go_wp2_with fail
    refine (awake_any _).mono ?_
    rintro e w1 ⟨rfl, f1⟩
    clear rcc0 rcc1 rcc2 rcc3 rcc4 rcc5 rcc6 rcc7
    replace rc := rc.keep f1 (fun h => h)
    replace f0 := f0.trans f1
    clear f1
    obtain ⟨rcc0, rcc1, rcc2, rcc3, rcc4, rcc5, rcc6, rcc7⟩ := cbox_cells rc
    go_wp2_with fail
    refine (M1 _).mono ?_
    rintro e w2 ⟨rfl, f1⟩
    clear rcc0 rcc1 rcc2 rcc3 rcc4 rcc5 rcc6 rcc7
    replace rc := rc.keep f1 (fun h => h)
    replace f0 := f0.trans f1
    clear f1
    have ra := row_alloc w2 (cbox k2 o2 r2 b2 x2 g2 n2 d2) 23
    replace rc := rc.alloc (.cells (cbox k2 o2 r2 b2 x2 g2 n2 d2) 23)
    replace f0 := f0.alloc (.cells (cbox k2 o2 r2 b2 x2 g2 n2 d2) 23)
    unfold cbox at f0 rc ra
    obtain ⟨rcc0, rcc1, rcc2, rcc3, rcc4, rcc5, rcc6, rcc7⟩ := cbox_cells rc
    obtain ⟨rac0, rac1, rac2, rac3, rac4, rac5, rac6, rac7⟩ := cbox_cells ra
    go_wp2_with fail
    refine (M2 _).mono ?_
    rintro e w3 ⟨rfl, f1⟩
    clear rcc0 rcc1 rcc2 rcc3 rcc4 rcc5 rcc6 rcc7 rac0 rac1 rac2 rac3 rac4 rac5 rac6 rac7
    replace rc := rc.keep f1 (fun h => h)
    replace ra := ra.keep f1 (fun h => h)
    replace f0 := f0.trans f1
    clear f1
    have rb := row_alloc w3 (cbox k5 o5 r5 b5 x5 g5 n5 d5) 23
    replace rc := rc.alloc (.cells (cbox k5 o5 r5 b5 x5 g5 n5 d5) 23)
    replace ra := ra.alloc (.cells (cbox k5 o5 r5 b5 x5 g5 n5 d5) 23)
    replace f0 := f0.alloc (.cells (cbox k5 o5 r5 b5 x5 g5 n5 d5) 23)
    unfold cbox at f0 rc ra rb
    clear ra
    obtain ⟨rcc0, rcc1, rcc2, rcc3, rcc4, rcc5, rcc6, rcc7⟩ := cbox_cells rc
    obtain ⟨rbc0, rbc1, rbc2, rbc3, rbc4, rbc5, rbc6, rbc7⟩ := cbox_cells rb
    go_wp2_with fail
    refine (M3 _).mono ?_
    rintro e w4 ⟨rfl, f1⟩
    clear rcc0 rcc1 rcc2 rcc3 rcc4 rcc5 rcc6 rcc7 rbc0 rbc1 rbc2 rbc3 rbc4 rbc5 rbc6 rbc7
    replace rc := rc.keep f1 (fun h => h)
    replace rb := rb.keep f1 (fun h => h)
    replace f0 := f0.trans f1
    clear f1
    have rd := row_alloc w4 (cbox k5 o5 r5 b5 x5 g5 n5 d5) 23
    replace rc := rc.alloc (.cells (cbox k5 o5 r5 b5 x5 g5 n5 d5) 23)
    replace rb := rb.alloc (.cells (cbox k5 o5 r5 b5 x5 g5 n5 d5) 23)
    replace f0 := f0.alloc (.cells (cbox k5 o5 r5 b5 x5 g5 n5 d5) 23)
    unfold cbox at f0 rc rb rd
    obtain ⟨rcc0, rcc1, rcc2, rcc3, rcc4, rcc5, rcc6, rcc7⟩ := cbox_cells rc
    obtain ⟨rbc0, rbc1, rbc2, rbc3, rbc4, rbc5, rbc6, rbc7⟩ := cbox_cells rb
    obtain ⟨rdc0, rdc1, rdc2, rdc3, rdc4, rdc5, rdc6, rdc7⟩ := cbox_cells rd
    go_wp2_with fail
    refine (Mi _).mono ?_
    rintro e w5 ⟨rfl, f1⟩
    clear rcc0 rcc1 rcc2 rcc3 rcc4 rcc5 rcc6 rcc7 rbc0 rbc1 rbc2 rbc3 rbc4 rbc5 rbc6 rbc7 rdc0 rdc1 rdc2 rdc3 rdc4 rdc5 rdc6 rdc7
    replace rc := rc.keep f1 (fun h => h)
    replace rb := rb.keep f1 (fun h => h)
    replace rd := rd.keep f1 (fun h => h)
    replace f0 := f0.trans f1
    clear f1
    have rx := row_alloc w5 (cbox k3 o3 r3 b3 x3 g3 n3 d3) 23
    replace rc := rc.alloc (.cells (cbox k3 o3 r3 b3 x3 g3 n3 d3) 23)
    replace rb := rb.alloc (.cells (cbox k3 o3 r3 b3 x3 g3 n3 d3) 23)
    replace rd := rd.alloc (.cells (cbox k3 o3 r3 b3 x3 g3 n3 d3) 23)
    replace f0 := f0.alloc (.cells (cbox k3 o3 r3 b3 x3 g3 n3 d3) 23)
    unfold cbox at f0 rc rb rd rx
    clear rb rd
    obtain ⟨rcc0, rcc1, rcc2, rcc3, rcc4, rcc5, rcc6, rcc7⟩ := cbox_cells rc
    obtain ⟨rxc0, rxc1, rxc2, rxc3, rxc4, rxc5, rxc6, rxc7⟩ := cbox_cells rx
    go_wp2_with fail
    refine (Mj _).mono ?_
    rintro e w6 ⟨rfl, f1⟩
    clear rcc0 rcc1 rcc2 rcc3 rcc4 rcc5 rcc6 rcc7 rxc0 rxc1 rxc2 rxc3 rxc4 rxc5 rxc6 rxc7
    replace rc := rc.keep f1 (fun h => h)
    replace rx := rx.keep f1 (fun h => h)
    replace f0 := f0.trans f1
    clear f1
    have ry := row_alloc w6 (cbox k4 o4 r4 b4 x4 g4 n4 d4) 23
    replace rc := rc.alloc (.cells (cbox k4 o4 r4 b4 x4 g4 n4 d4) 23)
    replace rx := rx.alloc (.cells (cbox k4 o4 r4 b4 x4 g4 n4 d4) 23)
    replace f0 := f0.alloc (.cells (cbox k4 o4 r4 b4 x4 g4 n4 d4) 23)
    unfold cbox at f0 rc rx ry
    obtain ⟨rcc0, rcc1, rcc2, rcc3, rcc4, rcc5, rcc6, rcc7⟩ := cbox_cells rc
    obtain ⟨rxc0, rxc1, rxc2, rxc3, rxc4, rxc5, rxc6, rxc7⟩ := cbox_cells rx
    obtain ⟨ryc0, ryc1, ryc2, ryc3, ryc4, ryc5, ryc6, ryc7⟩ := cbox_cells ry
    go_wp2_with fail
    go_ret
    exact ⟨rfl, f0⟩

theorem twice_walk (k o r b x g n : Int) (d : Bool) (q s y : Int) (w : World) : Calls Try.prog 7 #[.agg #[.int .i64 k, .int .i64 o, .int .i64 r, .int .i64 b, .int .i64 x, .int .i64 g, .int .i64 n, .bool d], .int .i64 q, .int .i64 s, .int .i64 y] w fun e w' => e = .returned (.bool true) ∧ Fr none' w w' := by
  by_cases he : mintE (K.mk k o r b x g n d) y g n = 0
  · by_cases hk : k = 4 ∨ k = 5 ∨ k = 6
    · exact twice_in k o r b x g n d q s y w he hk
    · exact twice_out k o r b x g n d q s y w he (by rw [bne_iff_ne]; omega) (by rw [bne_iff_ne]; omega) (by rw [bne_iff_ne]; omega) _ rfl
  · exact twice_err k o r b x g n d q s y w (by simpa using he)

theorem twice_any (k o r b x g n : Int) (d : Bool) (q s y : Int) (w : World) : Calls Try.prog 7 #[.agg #[.int .i64 k, .int .i64 o, .int .i64 r, .int .i64 b, .int .i64 x, .int .i64 g, .int .i64 n, .bool d], .int .i64 q, .int .i64 s, .int .i64 y] w fun e w' => e = .returned (.bool true) ∧ Below w.heap.size w w' :=
  (twice_walk k o r b x g n d q s y w).mono fun _ _ ⟨he, hf⟩ => ⟨he, hf.below (Nat.le_refl _) (fun _ h => h.elim)⟩

end Go.Proofs.Ytiiiiapaggkdkaa
