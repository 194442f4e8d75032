/-
  The walk of the law CapsDerives: for every two caps and all numbers the law returns true, and nothing old turns.
-/
import Derived.Test.YtiiiiapaggkdkaaCapAwake
import Derived.Test.YtiiiiapaggkdkaaCapRMint2
namespace Go.Proofs.Ytiiiiapaggkdkaa
open Go.RowKit

set_option maxRecDepth 100000 in
set_option maxHeartbeats 1600000 in
theorem derives_walk (k o r b x g n : Int) (d : Bool) (k' o' r' b' x' g' n' : Int) (d' : Bool) (q y p m : Int) (w : World) : Calls Try.prog 4 #[.agg #[.int .i64 k, .int .i64 o, .int .i64 r, .int .i64 b, .int .i64 x, .int .i64 g, .int .i64 n, .bool d], .agg #[.int .i64 k', .int .i64 o', .int .i64 r', .int .i64 b', .int .i64 x', .int .i64 g', .int .i64 n', .bool d'], .int .i64 q, .int .i64 y, .int .i64 p, .int .i64 m] w fun e w' => e = .returned (.bool true) ∧ Fr none' w w' := by
  have f0 := (((Fr.refl none' w).alloc (.cells (cbox k o r b x g n d) 23)).alloc (.cells (cbox k' o' r' b' x' g' n' d') 23))
  have rc := (row_alloc w (cbox k o r b x g n d) 23).alloc (.cells (cbox k' o' r' b' x' g' n' d') 23)
  have rd := row_alloc1 w (.cells (cbox k o r b x g n d) 23) (cbox k' o' r' b' x' g' n' d') 23
  unfold cbox at f0 rc rd
  have M1 := fun w => mask_any k o r b x g n d q w
  have M2 := fun w => rmask_any k o r b x g n d q w
  have D1 := fun w => derive_any k o r b x g n d w
  have D2 := fun w => rderive_any k o r b x g n d w
  have T1 := fun w => mint_any k o r b x g n d q y p m w
  have T2 := fun w => rmint_any k o r b x g n d q y p m w
  have S1 := fun w => same_any k o r b x g n d k' o' r' b' x' g' n' d' w
  have S2 := fun w => rsame_any k o r b x g n d k' o' r' b' x' g' n' d' w
  generalize maskC (K.mk k o r b x g n d) q = v3 at *
  generalize derC (K.mk k o r b x g n d) = v4 at *
  generalize refE k = v5 at *
  generalize mintC (K.mk k o r b x g n d) q y p m = v6 at *
  generalize mintE (K.mk k o r b x g n d) y p m = v7 at *
  generalize sameC (K.mk k o r b x g n d) (K.mk k' o' r' b' x' g' n' d') = v8 at *
  obtain ⟨k3, o3, r3, b3, x3, g3, n3, d3⟩ := v3
  obtain ⟨k4, o4, r4, b4, x4, g4, n4, d4⟩ := v4
  obtain ⟨k6, o6, r6, b6, x6, g6, n6, d6⟩ := v6
  dsimp only at M1 M2 D1 D2 T1 T2
  have t5 : (v5 == v5) = true := by simp
  have t7 : (v7 == v7) = true := by simp
  have t8 : (v8 == v8) = true := by simp
  have heq3 := fun w => eq_cap k3 o3 r3 b3 x3 g3 n3 k3 o3 r3 b3 x3 g3 n3 d3 d3 w
  rw [eqK_self] at heq3
  have heq4 := fun w => eq_cap k4 o4 r4 b4 x4 g4 n4 k4 o4 r4 b4 x4 g4 n4 d4 d4 w
  rw [eqK_self] at heq4
  have heq6 := fun w => eq_cap k6 o6 r6 b6 x6 g6 n6 k6 o6 r6 b6 x6 g6 n6 d6 d6 w
  rw [eqK_self] at heq6
  go_enter Try.func4, Try.ntmps4
  obtain ⟨rcc0, rcc1, rcc2, rcc3, rcc4, rcc5, rcc6, rcc7⟩ := cbox_cells rc
  obtain ⟨rdc0, rdc1, rdc2, rdc3, rdc4, rdc5, rdc6, rdc7⟩ := cbox_cells rd
  go_wp2_with fail
  refine (awake_any _).mono ?_
  rintro e w1 ⟨rfl, f1⟩
  clear rcc0 rcc1 rcc2 rcc3 rcc4 rcc5 rcc6 rcc7 rdc0 rdc1 rdc2 rdc3 rdc4 rdc5 rdc6 rdc7
  replace rc := rc.keep f1 (fun h => h)
  replace rd := rd.keep f1 (fun h => h)
  replace f0 := f0.trans f1
  clear f1
  obtain ⟨rcc0, rcc1, rcc2, rcc3, rcc4, rcc5, rcc6, rcc7⟩ := cbox_cells rc
  obtain ⟨rdc0, rdc1, rdc2, rdc3, rdc4, rdc5, rdc6, rdc7⟩ := cbox_cells rd
  go_wp2_with fail
  refine (M1 _).mono ?_
  rintro e w2 ⟨rfl, f1⟩
  clear rcc0 rcc1 rcc2 rcc3 rcc4 rcc5 rcc6 rcc7 rdc0 rdc1 rdc2 rdc3 rdc4 rdc5 rdc6 rdc7
  replace rc := rc.keep f1 (fun h => h)
  replace rd := rd.keep f1 (fun h => h)
  replace f0 := f0.trans f1
  clear f1
  have ra := row_alloc w2 (cbox k3 o3 r3 b3 x3 g3 n3 d3) 23
  replace rc := rc.alloc (.cells (cbox k3 o3 r3 b3 x3 g3 n3 d3) 23)
  replace rd := rd.alloc (.cells (cbox k3 o3 r3 b3 x3 g3 n3 d3) 23)
  replace f0 := f0.alloc (.cells (cbox k3 o3 r3 b3 x3 g3 n3 d3) 23)
  unfold cbox at f0 rc rd ra
  obtain ⟨rcc0, rcc1, rcc2, rcc3, rcc4, rcc5, rcc6, rcc7⟩ := cbox_cells rc
  obtain ⟨rdc0, rdc1, rdc2, rdc3, rdc4, rdc5, rdc6, rdc7⟩ := cbox_cells rd
  obtain ⟨rac0, rac1, rac2, rac3, rac4, rac5, rac6, rac7⟩ := cbox_cells ra
  go_wp2_with fail
  refine (M2 _).mono ?_
  rintro e w3 ⟨rfl, f1⟩
  clear rcc0 rcc1 rcc2 rcc3 rcc4 rcc5 rcc6 rcc7 rdc0 rdc1 rdc2 rdc3 rdc4 rdc5 rdc6 rdc7 rac0 rac1 rac2 rac3 rac4 rac5 rac6 rac7
  replace rc := rc.keep f1 (fun h => h)
  replace rd := rd.keep f1 (fun h => h)
  replace ra := ra.keep f1 (fun h => h)
  replace f0 := f0.trans f1
  clear f1
  have rb := row_alloc w3 (cbox k3 o3 r3 b3 x3 g3 n3 d3) 23
  replace rc := rc.alloc (.cells (cbox k3 o3 r3 b3 x3 g3 n3 d3) 23)
  replace rd := rd.alloc (.cells (cbox k3 o3 r3 b3 x3 g3 n3 d3) 23)
  replace ra := ra.alloc (.cells (cbox k3 o3 r3 b3 x3 g3 n3 d3) 23)
  replace f0 := f0.alloc (.cells (cbox k3 o3 r3 b3 x3 g3 n3 d3) 23)
  unfold cbox at f0 rc rd ra rb
  obtain ⟨rcc0, rcc1, rcc2, rcc3, rcc4, rcc5, rcc6, rcc7⟩ := cbox_cells rc
  obtain ⟨rdc0, rdc1, rdc2, rdc3, rdc4, rdc5, rdc6, rdc7⟩ := cbox_cells rd
  obtain ⟨rac0, rac1, rac2, rac3, rac4, rac5, rac6, rac7⟩ := cbox_cells ra
  obtain ⟨rbc0, rbc1, rbc2, rbc3, rbc4, rbc5, rbc6, rbc7⟩ := cbox_cells rb
  go_wp2_with fail
  refine (D1 _).mono ?_
  rintro e w4 ⟨rfl, f1⟩
  clear rcc0 rcc1 rcc2 rcc3 rcc4 rcc5 rcc6 rcc7 rdc0 rdc1 rdc2 rdc3 rdc4 rdc5 rdc6 rdc7 rac0 rac1 rac2 rac3 rac4 rac5 rac6 rac7 rbc0 rbc1 rbc2 rbc3 rbc4 rbc5 rbc6 rbc7
  replace rc := rc.keep f1 (fun h => h)
  replace rd := rd.keep f1 (fun h => h)
  replace ra := ra.keep f1 (fun h => h)
  replace rb := rb.keep f1 (fun h => h)
  replace f0 := f0.trans f1
  clear f1
  have re := row_alloc w4 (cbox k4 o4 r4 b4 x4 g4 n4 d4) 23
  replace rc := rc.alloc (.cells (cbox k4 o4 r4 b4 x4 g4 n4 d4) 23)
  replace rd := rd.alloc (.cells (cbox k4 o4 r4 b4 x4 g4 n4 d4) 23)
  replace ra := ra.alloc (.cells (cbox k4 o4 r4 b4 x4 g4 n4 d4) 23)
  replace rb := rb.alloc (.cells (cbox k4 o4 r4 b4 x4 g4 n4 d4) 23)
  replace f0 := f0.alloc (.cells (cbox k4 o4 r4 b4 x4 g4 n4 d4) 23)
  unfold cbox at f0 rc rd ra rb re
  obtain ⟨rcc0, rcc1, rcc2, rcc3, rcc4, rcc5, rcc6, rcc7⟩ := cbox_cells rc
  obtain ⟨rdc0, rdc1, rdc2, rdc3, rdc4, rdc5, rdc6, rdc7⟩ := cbox_cells rd
  obtain ⟨rac0, rac1, rac2, rac3, rac4, rac5, rac6, rac7⟩ := cbox_cells ra
  obtain ⟨rbc0, rbc1, rbc2, rbc3, rbc4, rbc5, rbc6, rbc7⟩ := cbox_cells rb
  obtain ⟨rec0, rec1, rec2, rec3, rec4, rec5, rec6, rec7⟩ := cbox_cells re
  go_wp2_with fail
  refine (D2 _).mono ?_
  rintro e w5 ⟨rfl, f1⟩
  clear rcc0 rcc1 rcc2 rcc3 rcc4 rcc5 rcc6 rcc7 rdc0 rdc1 rdc2 rdc3 rdc4 rdc5 rdc6 rdc7 rac0 rac1 rac2 rac3 rac4 rac5 rac6 rac7 rbc0 rbc1 rbc2 rbc3 rbc4 rbc5 rbc6 rbc7 rec0 rec1 rec2 rec3 rec4 rec5 rec6 rec7
  replace rc := rc.keep f1 (fun h => h)
  replace rd := rd.keep f1 (fun h => h)
  replace ra := ra.keep f1 (fun h => h)
  replace rb := rb.keep f1 (fun h => h)
  replace re := re.keep f1 (fun h => h)
  replace f0 := f0.trans f1
  clear f1
  have rf := row_alloc w5 (cbox k4 o4 r4 b4 x4 g4 n4 d4) 23
  replace rc := rc.alloc (.cells (cbox k4 o4 r4 b4 x4 g4 n4 d4) 23)
  replace rd := rd.alloc (.cells (cbox k4 o4 r4 b4 x4 g4 n4 d4) 23)
  replace ra := ra.alloc (.cells (cbox k4 o4 r4 b4 x4 g4 n4 d4) 23)
  replace rb := rb.alloc (.cells (cbox k4 o4 r4 b4 x4 g4 n4 d4) 23)
  replace re := re.alloc (.cells (cbox k4 o4 r4 b4 x4 g4 n4 d4) 23)
  replace f0 := f0.alloc (.cells (cbox k4 o4 r4 b4 x4 g4 n4 d4) 23)
  unfold cbox at f0 rc rd ra rb re rf
  obtain ⟨rcc0, rcc1, rcc2, rcc3, rcc4, rcc5, rcc6, rcc7⟩ := cbox_cells rc
  obtain ⟨rdc0, rdc1, rdc2, rdc3, rdc4, rdc5, rdc6, rdc7⟩ := cbox_cells rd
  obtain ⟨rac0, rac1, rac2, rac3, rac4, rac5, rac6, rac7⟩ := cbox_cells ra
  obtain ⟨rbc0, rbc1, rbc2, rbc3, rbc4, rbc5, rbc6, rbc7⟩ := cbox_cells rb
  obtain ⟨rec0, rec1, rec2, rec3, rec4, rec5, rec6, rec7⟩ := cbox_cells re
  obtain ⟨rfc0, rfc1, rfc2, rfc3, rfc4, rfc5, rfc6, rfc7⟩ := cbox_cells rf
  go_wp2_with fail
  refine (T1 _).mono ?_
  rintro e w6 ⟨rfl, f1⟩
  clear rcc0 rcc1 rcc2 rcc3 rcc4 rcc5 rcc6 rcc7 rdc0 rdc1 rdc2 rdc3 rdc4 rdc5 rdc6 rdc7 rac0 rac1 rac2 rac3 rac4 rac5 rac6 rac7 rbc0 rbc1 rbc2 rbc3 rbc4 rbc5 rbc6 rbc7 rec0 rec1 rec2 rec3 rec4 rec5 rec6 rec7 rfc0 rfc1 rfc2 rfc3 rfc4 rfc5 rfc6 rfc7
  replace rc := rc.keep f1 (fun h => h)
  replace rd := rd.keep f1 (fun h => h)
  replace ra := ra.keep f1 (fun h => h)
  replace rb := rb.keep f1 (fun h => h)
  replace re := re.keep f1 (fun h => h)
  replace rf := rf.keep f1 (fun h => h)
  replace f0 := f0.trans f1
  clear f1
  have rg := row_alloc w6 (cbox k6 o6 r6 b6 x6 g6 n6 d6) 23
  replace rc := rc.alloc (.cells (cbox k6 o6 r6 b6 x6 g6 n6 d6) 23)
  replace rd := rd.alloc (.cells (cbox k6 o6 r6 b6 x6 g6 n6 d6) 23)
  replace ra := ra.alloc (.cells (cbox k6 o6 r6 b6 x6 g6 n6 d6) 23)
  replace rb := rb.alloc (.cells (cbox k6 o6 r6 b6 x6 g6 n6 d6) 23)
  replace re := re.alloc (.cells (cbox k6 o6 r6 b6 x6 g6 n6 d6) 23)
  replace rf := rf.alloc (.cells (cbox k6 o6 r6 b6 x6 g6 n6 d6) 23)
  replace f0 := f0.alloc (.cells (cbox k6 o6 r6 b6 x6 g6 n6 d6) 23)
  unfold cbox at f0 rc rd ra rb re rf rg
  obtain ⟨rcc0, rcc1, rcc2, rcc3, rcc4, rcc5, rcc6, rcc7⟩ := cbox_cells rc
  obtain ⟨rdc0, rdc1, rdc2, rdc3, rdc4, rdc5, rdc6, rdc7⟩ := cbox_cells rd
  obtain ⟨rac0, rac1, rac2, rac3, rac4, rac5, rac6, rac7⟩ := cbox_cells ra
  obtain ⟨rbc0, rbc1, rbc2, rbc3, rbc4, rbc5, rbc6, rbc7⟩ := cbox_cells rb
  obtain ⟨rec0, rec1, rec2, rec3, rec4, rec5, rec6, rec7⟩ := cbox_cells re
  obtain ⟨rfc0, rfc1, rfc2, rfc3, rfc4, rfc5, rfc6, rfc7⟩ := cbox_cells rf
  obtain ⟨rgc0, rgc1, rgc2, rgc3, rgc4, rgc5, rgc6, rgc7⟩ := cbox_cells rg
  go_wp2_with fail
  refine (T2 _).mono ?_
  rintro e w7 ⟨rfl, f1⟩
  clear rcc0 rcc1 rcc2 rcc3 rcc4 rcc5 rcc6 rcc7 rdc0 rdc1 rdc2 rdc3 rdc4 rdc5 rdc6 rdc7 rac0 rac1 rac2 rac3 rac4 rac5 rac6 rac7 rbc0 rbc1 rbc2 rbc3 rbc4 rbc5 rbc6 rbc7 rec0 rec1 rec2 rec3 rec4 rec5 rec6 rec7 rfc0 rfc1 rfc2 rfc3 rfc4 rfc5 rfc6 rfc7 rgc0 rgc1 rgc2 rgc3 rgc4 rgc5 rgc6 rgc7
  replace rc := rc.keep f1 (fun h => h)
  replace rd := rd.keep f1 (fun h => h)
  replace ra := ra.keep f1 (fun h => h)
  replace rb := rb.keep f1 (fun h => h)
  replace re := re.keep f1 (fun h => h)
  replace rf := rf.keep f1 (fun h => h)
  replace rg := rg.keep f1 (fun h => h)
  replace f0 := f0.trans f1
  clear f1
  have rh := row_alloc w7 (cbox k6 o6 r6 b6 x6 g6 n6 d6) 23
  replace rc := rc.alloc (.cells (cbox k6 o6 r6 b6 x6 g6 n6 d6) 23)
  replace rd := rd.alloc (.cells (cbox k6 o6 r6 b6 x6 g6 n6 d6) 23)
  replace ra := ra.alloc (.cells (cbox k6 o6 r6 b6 x6 g6 n6 d6) 23)
  replace rb := rb.alloc (.cells (cbox k6 o6 r6 b6 x6 g6 n6 d6) 23)
  replace re := re.alloc (.cells (cbox k6 o6 r6 b6 x6 g6 n6 d6) 23)
  replace rf := rf.alloc (.cells (cbox k6 o6 r6 b6 x6 g6 n6 d6) 23)
  replace rg := rg.alloc (.cells (cbox k6 o6 r6 b6 x6 g6 n6 d6) 23)
  replace f0 := f0.alloc (.cells (cbox k6 o6 r6 b6 x6 g6 n6 d6) 23)
  unfold cbox at f0 rc rd ra rb re rf rg rh
  obtain ⟨rcc0, rcc1, rcc2, rcc3, rcc4, rcc5, rcc6, rcc7⟩ := cbox_cells rc
  obtain ⟨rdc0, rdc1, rdc2, rdc3, rdc4, rdc5, rdc6, rdc7⟩ := cbox_cells rd
  obtain ⟨rac0, rac1, rac2, rac3, rac4, rac5, rac6, rac7⟩ := cbox_cells ra
  obtain ⟨rbc0, rbc1, rbc2, rbc3, rbc4, rbc5, rbc6, rbc7⟩ := cbox_cells rb
  obtain ⟨rec0, rec1, rec2, rec3, rec4, rec5, rec6, rec7⟩ := cbox_cells re
  obtain ⟨rfc0, rfc1, rfc2, rfc3, rfc4, rfc5, rfc6, rfc7⟩ := cbox_cells rf
  obtain ⟨rgc0, rgc1, rgc2, rgc3, rgc4, rgc5, rgc6, rgc7⟩ := cbox_cells rg
  obtain ⟨rhc0, rhc1, rhc2, rhc3, rhc4, rhc5, rhc6, rhc7⟩ := cbox_cells rh
  go_wp2_with fail
  refine (S1 _).mono ?_
  rintro e w8 ⟨rfl, f1⟩
  clear rcc0 rcc1 rcc2 rcc3 rcc4 rcc5 rcc6 rcc7 rdc0 rdc1 rdc2 rdc3 rdc4 rdc5 rdc6 rdc7 rac0 rac1 rac2 rac3 rac4 rac5 rac6 rac7 rbc0 rbc1 rbc2 rbc3 rbc4 rbc5 rbc6 rbc7 rec0 rec1 rec2 rec3 rec4 rec5 rec6 rec7 rfc0 rfc1 rfc2 rfc3 rfc4 rfc5 rfc6 rfc7 rgc0 rgc1 rgc2 rgc3 rgc4 rgc5 rgc6 rgc7 rhc0 rhc1 rhc2 rhc3 rhc4 rhc5 rhc6 rhc7
  replace rc := rc.keep f1 (fun h => h)
  replace rd := rd.keep f1 (fun h => h)
  replace ra := ra.keep f1 (fun h => h)
  replace rb := rb.keep f1 (fun h => h)
  replace re := re.keep f1 (fun h => h)
  replace rf := rf.keep f1 (fun h => h)
  replace rg := rg.keep f1 (fun h => h)
  replace rh := rh.keep f1 (fun h => h)
  replace f0 := f0.trans f1
  clear f1
  obtain ⟨rcc0, rcc1, rcc2, rcc3, rcc4, rcc5, rcc6, rcc7⟩ := cbox_cells rc
  obtain ⟨rdc0, rdc1, rdc2, rdc3, rdc4, rdc5, rdc6, rdc7⟩ := cbox_cells rd
  obtain ⟨rac0, rac1, rac2, rac3, rac4, rac5, rac6, rac7⟩ := cbox_cells ra
  obtain ⟨rbc0, rbc1, rbc2, rbc3, rbc4, rbc5, rbc6, rbc7⟩ := cbox_cells rb
  obtain ⟨rec0, rec1, rec2, rec3, rec4, rec5, rec6, rec7⟩ := cbox_cells re
  obtain ⟨rfc0, rfc1, rfc2, rfc3, rfc4, rfc5, rfc6, rfc7⟩ := cbox_cells rf
  obtain ⟨rgc0, rgc1, rgc2, rgc3, rgc4, rgc5, rgc6, rgc7⟩ := cbox_cells rg
  obtain ⟨rhc0, rhc1, rhc2, rhc3, rhc4, rhc5, rhc6, rhc7⟩ := cbox_cells rh
  go_wp2_with fail
  refine (S2 _).mono ?_
  rintro e w9 ⟨rfl, f1⟩
  clear rcc0 rcc1 rcc2 rcc3 rcc4 rcc5 rcc6 rcc7 rdc0 rdc1 rdc2 rdc3 rdc4 rdc5 rdc6 rdc7 rac0 rac1 rac2 rac3 rac4 rac5 rac6 rac7 rbc0 rbc1 rbc2 rbc3 rbc4 rbc5 rbc6 rbc7 rec0 rec1 rec2 rec3 rec4 rec5 rec6 rec7 rfc0 rfc1 rfc2 rfc3 rfc4 rfc5 rfc6 rfc7 rgc0 rgc1 rgc2 rgc3 rgc4 rgc5 rgc6 rgc7 rhc0 rhc1 rhc2 rhc3 rhc4 rhc5 rhc6 rhc7
  replace rc := rc.keep f1 (fun h => h)
  replace rd := rd.keep f1 (fun h => h)
  replace ra := ra.keep f1 (fun h => h)
  replace rb := rb.keep f1 (fun h => h)
  replace re := re.keep f1 (fun h => h)
  replace rf := rf.keep f1 (fun h => h)
  replace rg := rg.keep f1 (fun h => h)
  replace rh := rh.keep f1 (fun h => h)
  replace f0 := f0.trans f1
  clear f1
  clear rc rd
  obtain ⟨rac0, rac1, rac2, rac3, rac4, rac5, rac6, rac7⟩ := cbox_cells ra
  obtain ⟨rbc0, rbc1, rbc2, rbc3, rbc4, rbc5, rbc6, rbc7⟩ := cbox_cells rb
  obtain ⟨rec0, rec1, rec2, rec3, rec4, rec5, rec6, rec7⟩ := cbox_cells re
  obtain ⟨rfc0, rfc1, rfc2, rfc3, rfc4, rfc5, rfc6, rfc7⟩ := cbox_cells rf
  obtain ⟨rgc0, rgc1, rgc2, rgc3, rgc4, rgc5, rgc6, rgc7⟩ := cbox_cells rg
  obtain ⟨rhc0, rhc1, rhc2, rhc3, rhc4, rhc5, rhc6, rhc7⟩ := cbox_cells rh
  go_wp2_with fail
  go_ret
  exact ⟨rfl, f0⟩

theorem derives_any (k o r b x g n : Int) (d : Bool) (k' o' r' b' x' g' n' : Int) (d' : Bool) (q y p m : Int) (w : World) : Calls Try.prog 4 #[.agg #[.int .i64 k, .int .i64 o, .int .i64 r, .int .i64 b, .int .i64 x, .int .i64 g, .int .i64 n, .bool d], .agg #[.int .i64 k', .int .i64 o', .int .i64 r', .int .i64 b', .int .i64 x', .int .i64 g', .int .i64 n', .bool d'], .int .i64 q, .int .i64 y, .int .i64 p, .int .i64 m] w fun e w' => e = .returned (.bool true) ∧ Below w.heap.size w w' :=
  (derives_walk k o r b x g n d k' o' r' b' x' g' n' d' q y p m w).mono fun _ _ ⟨he, hf⟩ => ⟨he, hf.below (Nat.le_refl _) (fun _ h => h.elim)⟩

end Go.Proofs.Ytiiiiapaggkdkaa
