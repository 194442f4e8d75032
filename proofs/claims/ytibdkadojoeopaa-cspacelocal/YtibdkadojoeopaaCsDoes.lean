/-
  The contract of the law's own 'does' over the translation: an act by both is answered alike, and leaves both alike. No statement is proved here.
-/
import Derived.Test.YtibdkadojoeopaaCsBoth
namespace Go.Proofs.Ytibdkadojoeopaa
open Go.RowKit Go.Maps Go.WideMaps

set_option maxRecDepth 100000 in
set_option maxHeartbeats 4000000 in
theorem does_add (w : World) (p : Pb) (q : Qb) (L : List Nd) (h : BoAt w p q L L) (id rx an ai : Int) (k o r b x g n : Int) (d : Bool) (X : Nat) (dp : Int)  :
    Calls Try.prog 11 #[.pointer (some ⟨p.b, 0, none⟩), .pointer (some ⟨q.b, 0, none⟩), .agg #[.int .i64 1, .int .i64 id, .int .i64 rx, .int .i64 an, .int .i64 ai, .int .i64 k, .int .i64 o, .int .i64 r, .int .i64 b, .int .i64 x, .int .i64 g, .int .i64 n, .bool d, .int .u32 (X : Int), .int .i64 dp]] w fun e w' => e = .returned (.bool true) ∧ ChgB w p q L w' (addS L id rx) := by
  have f0 := (Fr.refl none' w).alloc (.cells #[.int .i64 1, .int .i64 id, .int .i64 rx, .int .i64 an, .int .i64 ai, .int .i64 k, .int .i64 o, .int .i64 r, .int .i64 b, .int .i64 x, .int .i64 g, .int .i64 n, .bool d, .int .u32 (X : Int), .int .i64 dp] 37)
  have ra := row_alloc w (acV (Ac.mk 1 id rx ⟨an, ai⟩ (K.mk k o r b x g n d) X dp)) 37
  have h0 := h.keep0 f0
  have HL : Hid (∀ k, boU p q L L k → k ≠ w.heap.size) := fun k hk e => by have := h.lt k hk; omega
  clear h
  go_enter Try.func11, Try.ntmps11
  obtain ⟨⟨a0, a1, a2, a3, a4⟩, ⟨a5, a6, a7, a8, a9, a10, a11, a12⟩, a13, a14⟩ := ac_cells ra
  dsimp only at a0 a1 a2 a3 a4 a5 a6 a7 a8 a9 a10 a11 a12 a13 a14
  go_wp2_with fail
  refine (add_any _ p L h0.pr id rx).mono ?_
  rintro e w1 ⟨rfl, c1⟩
  obtain ⟨p1, e1, h1, f1, n1⟩ := h0.stepP c1
  replace ra := ra.keep f1 (fun hk => HL.out _ hk rfl)
  clear a0 a1 a2 a3 a4 a5 a6 a7 a8 a9 a10 a11 a12 a13 a14
  have HF : Hid (∀ w2, ChgQ w1 q L w2 (addS L id rx) → ChgB w p q L w2 (addS L id rx)) := fun w2 c2 => chgB_two f0 e1 f1 n1 h1 c2
  obtain ⟨⟨a0, a1, a2, a3, a4⟩, ⟨a5, a6, a7, a8, a9, a10, a11, a12⟩, a13, a14⟩ := ac_cells ra
  dsimp only at a0 a1 a2 a3 a4 a5 a6 a7 a8 a9 a10 a11 a12 a13 a14
  go_wp2_with fail
  refine (radd_any _ q L h1.rf id rx).mono ?_
  rintro e w2 ⟨rfl, c2⟩
  have HC : Hid (ChgB w p q L w2 (addS L id rx)) := HF.out w2 c2
  clear a0 a1 a2 a3 a4 a5 a6 a7 a8 a9 a10 a11 a12 a13 a14
  clear c2 HF h1 f1 n1 e1 c1 h0 f0 ra
  have tt : (addE L id rx == addE L id rx) = true := by simp
  generalize addE L id rx = z at *
  go_wp2_with fail
  go_ret
  exact ⟨rfl, HC.out⟩

set_option maxRecDepth 100000 in
set_option maxHeartbeats 4000000 in
theorem does_drop (w : World) (p : Pb) (q : Qb) (L : List Nd) (h : BoAt w p q L L) (id rx an ai : Int) (k o r b x g n : Int) (d : Bool) (X : Nat) (dp : Int) (hI : I64 id) :
    Calls Try.prog 11 #[.pointer (some ⟨p.b, 0, none⟩), .pointer (some ⟨q.b, 0, none⟩), .agg #[.int .i64 2, .int .i64 id, .int .i64 rx, .int .i64 an, .int .i64 ai, .int .i64 k, .int .i64 o, .int .i64 r, .int .i64 b, .int .i64 x, .int .i64 g, .int .i64 n, .bool d, .int .u32 (X : Int), .int .i64 dp]] w fun e w' => e = .returned (.bool true) ∧ ChgB w p q L w' (drS L id) := by
  have f0 := (Fr.refl none' w).alloc (.cells #[.int .i64 2, .int .i64 id, .int .i64 rx, .int .i64 an, .int .i64 ai, .int .i64 k, .int .i64 o, .int .i64 r, .int .i64 b, .int .i64 x, .int .i64 g, .int .i64 n, .bool d, .int .u32 (X : Int), .int .i64 dp] 37)
  have ra := row_alloc w (acV (Ac.mk 2 id rx ⟨an, ai⟩ (K.mk k o r b x g n d) X dp)) 37
  have h0 := h.keep0 f0
  have HL : Hid (∀ k, boU p q L L k → k ≠ w.heap.size) := fun k hk e => by have := h.lt k hk; omega
  clear h
  go_enter Try.func11, Try.ntmps11
  obtain ⟨⟨a0, a1, a2, a3, a4⟩, ⟨a5, a6, a7, a8, a9, a10, a11, a12⟩, a13, a14⟩ := ac_cells ra
  dsimp only at a0 a1 a2 a3 a4 a5 a6 a7 a8 a9 a10 a11 a12 a13 a14
  go_wp2_with fail
  refine (drop_any _ p L h0.pr id hI).mono ?_
  rintro e w1 ⟨rfl, c1⟩
  obtain ⟨p1, e1, h1, f1, n1⟩ := h0.stepP c1
  replace ra := ra.keep f1 (fun hk => HL.out _ hk rfl)
  clear a0 a1 a2 a3 a4 a5 a6 a7 a8 a9 a10 a11 a12 a13 a14
  have HF : Hid (∀ w2, ChgQ w1 q L w2 (drS L id) → ChgB w p q L w2 (drS L id)) := fun w2 c2 => chgB_two f0 e1 f1 n1 h1 c2
  obtain ⟨⟨a0, a1, a2, a3, a4⟩, ⟨a5, a6, a7, a8, a9, a10, a11, a12⟩, a13, a14⟩ := ac_cells ra
  dsimp only at a0 a1 a2 a3 a4 a5 a6 a7 a8 a9 a10 a11 a12 a13 a14
  go_wp2_with fail
  refine (rdrop_any _ q L h1.rf id).mono ?_
  rintro e w2 ⟨rfl, c2⟩
  have HC : Hid (ChgB w p q L w2 (drS L id)) := HF.out w2 c2
  clear a0 a1 a2 a3 a4 a5 a6 a7 a8 a9 a10 a11 a12 a13 a14
  clear c2 HF h1 f1 n1 e1 c1 h0 f0 ra
  have tt : (drE L id == drE L id) = true := by simp
  generalize drE L id = z at *
  go_wp2_with fail
  go_ret
  exact ⟨rfl, HC.out⟩

set_option maxRecDepth 100000 in
set_option maxHeartbeats 4000000 in
theorem does_put (w : World) (p : Pb) (q : Qb) (L : List Nd) (h : BoAt w p q L L) (id rx an ai : Int) (k o r b x g n : Int) (d : Bool) (X : Nat) (dp : Int) (hI : I64 an) (hr : I64 r) :
    Calls Try.prog 11 #[.pointer (some ⟨p.b, 0, none⟩), .pointer (some ⟨q.b, 0, none⟩), .agg #[.int .i64 3, .int .i64 id, .int .i64 rx, .int .i64 an, .int .i64 ai, .int .i64 k, .int .i64 o, .int .i64 r, .int .i64 b, .int .i64 x, .int .i64 g, .int .i64 n, .bool d, .int .u32 (X : Int), .int .i64 dp]] w fun e w' => e = .returned (.bool true) ∧ ChgB w p q L w' (putS L ⟨an, ai⟩ (K.mk k o r b x g n d)) := by
  have f0 := (Fr.refl none' w).alloc (.cells #[.int .i64 3, .int .i64 id, .int .i64 rx, .int .i64 an, .int .i64 ai, .int .i64 k, .int .i64 o, .int .i64 r, .int .i64 b, .int .i64 x, .int .i64 g, .int .i64 n, .bool d, .int .u32 (X : Int), .int .i64 dp] 37)
  have ra := row_alloc w (acV (Ac.mk 3 id rx ⟨an, ai⟩ (K.mk k o r b x g n d) X dp)) 37
  have h0 := h.keep0 f0
  have HL : Hid (∀ k, boU p q L L k → k ≠ w.heap.size) := fun k hk e => by have := h.lt k hk; omega
  clear h
  go_enter Try.func11, Try.ntmps11
  obtain ⟨⟨a0, a1, a2, a3, a4⟩, ⟨a5, a6, a7, a8, a9, a10, a11, a12⟩, a13, a14⟩ := ac_cells ra
  dsimp only at a0 a1 a2 a3 a4 a5 a6 a7 a8 a9 a10 a11 a12 a13 a14
  go_wp2_with fail
  refine (put_any _ p L h0.pr ⟨an, ai⟩ hI (K.mk k o r b x g n d) hr).mono ?_
  rintro e w1 ⟨rfl, c1⟩
  obtain ⟨p1, e1, h1, f1, n1⟩ := h0.stepP c1
  replace ra := ra.keep f1 (fun hk => HL.out _ hk rfl)
  clear a0 a1 a2 a3 a4 a5 a6 a7 a8 a9 a10 a11 a12 a13 a14
  have HF : Hid (∀ w2, ChgQ w1 q L w2 (putS L ⟨an, ai⟩ (K.mk k o r b x g n d)) → ChgB w p q L w2 (putS L ⟨an, ai⟩ (K.mk k o r b x g n d))) := fun w2 c2 => chgB_two f0 e1 f1 n1 h1 c2
  obtain ⟨⟨a0, a1, a2, a3, a4⟩, ⟨a5, a6, a7, a8, a9, a10, a11, a12⟩, a13, a14⟩ := ac_cells ra
  dsimp only at a0 a1 a2 a3 a4 a5 a6 a7 a8 a9 a10 a11 a12 a13 a14
  go_wp2_with fail
  refine (rput_any _ q L h1.rf ⟨an, ai⟩ (K.mk k o r b x g n d)).mono ?_
  rintro e w2 ⟨rfl, c2⟩
  have HC : Hid (ChgB w p q L w2 (putS L ⟨an, ai⟩ (K.mk k o r b x g n d))) := HF.out w2 c2
  clear a0 a1 a2 a3 a4 a5 a6 a7 a8 a9 a10 a11 a12 a13 a14
  clear c2 HF h1 f1 n1 e1 c1 h0 f0 ra
  have tt : (putE L ⟨an, ai⟩ (K.mk k o r b x g n d) == putE L ⟨an, ai⟩ (K.mk k o r b x g n d)) = true := by simp
  generalize putE L ⟨an, ai⟩ (K.mk k o r b x g n d) = z at *
  go_wp2_with fail
  go_ret
  exact ⟨rfl, HC.out⟩

set_option maxRecDepth 100000 in
set_option maxHeartbeats 4000000 in
theorem does_get (w : World) (p : Pb) (q : Qb) (L : List Nd) (h : BoAt w p q L L) (id rx an ai : Int) (k o r b x g n : Int) (d : Bool) (X : Nat) (dp : Int) (hI : I64 an) :
    Calls Try.prog 11 #[.pointer (some ⟨p.b, 0, none⟩), .pointer (some ⟨q.b, 0, none⟩), .agg #[.int .i64 4, .int .i64 id, .int .i64 rx, .int .i64 an, .int .i64 ai, .int .i64 k, .int .i64 o, .int .i64 r, .int .i64 b, .int .i64 x, .int .i64 g, .int .i64 n, .bool d, .int .u32 (X : Int), .int .i64 dp]] w fun e w' => e = .returned (.bool true) ∧ Fr none' w w' := by
  have f0 := (Fr.refl none' w).alloc (.cells #[.int .i64 4, .int .i64 id, .int .i64 rx, .int .i64 an, .int .i64 ai, .int .i64 k, .int .i64 o, .int .i64 r, .int .i64 b, .int .i64 x, .int .i64 g, .int .i64 n, .bool d, .int .u32 (X : Int), .int .i64 dp] 37)
  have ra := row_alloc w (acV (Ac.mk 4 id rx ⟨an, ai⟩ (K.mk k o r b x g n d) X dp)) 37
  have h0 := h.keep0 f0
  have HL : Hid (∀ k, boU p q L L k → k ≠ w.heap.size) := fun k hk e => by have := h.lt k hk; omega
  clear h
  go_enter Try.func11, Try.ntmps11
  obtain ⟨⟨a0, a1, a2, a3, a4⟩, ⟨a5, a6, a7, a8, a9, a10, a11, a12⟩, a13, a14⟩ := ac_cells ra
  dsimp only at a0 a1 a2 a3 a4 a5 a6 a7 a8 a9 a10 a11 a12 a13 a14
  go_wp2_with fail
  have hG := get_any _ p L h0.pr ⟨an, ai⟩ hI
  have hQ := fun w' (f : Fr none' _ w') => rget_any w' q L (h0.rf.keep0 f) ⟨an, ai⟩
  generalize getC L ⟨an, ai⟩ = C at *
  generalize getE L ⟨an, ai⟩ = E at *
  obtain ⟨Ck, Co, Cr, Cb, Cx, Cg, Cn, Cd⟩ := C
  have heq := fun w => eq_cap Ck Co Cr Cb Cx Cg Cn Ck Co Cr Cb Cx Cg Cn Cd Cd w
  rw [eqK_self] at heq
  have tt : (E == E) = true := by simp
  refine hG.mono ?_
  rintro e w1 ⟨rfl, f1⟩
  clear a0 a1 a2 a3 a4 a5 a6 a7 a8 a9 a10 a11 a12 a13 a14
  have g1 := f1.alloc (.cells #[.int .i64 Ck, .int .i64 Co, .int .i64 Cr, .int .i64 Cb, .int .i64 Cx, .int .i64 Cg, .int .i64 Cn, .bool Cd] 34)
  have hR := hQ _ g1
  have r1 := row_alloc w1 (cbox Ck Co Cr Cb Cx Cg Cn Cd) 34
  replace ra := ra.keep g1 (fun h => h)
  replace f0 := f0.trans g1
  clear hQ hG f1 g1 h0
  unfold capV
  obtain ⟨⟨a0, a1, a2, a3, a4⟩, ⟨a5, a6, a7, a8, a9, a10, a11, a12⟩, a13, a14⟩ := ac_cells ra
  dsimp only at a0 a1 a2 a3 a4 a5 a6 a7 a8 a9 a10 a11 a12 a13 a14
  go_wp2_with fail
  refine hR.mono ?_
  rintro e w2 ⟨rfl, f2⟩
  clear a0 a1 a2 a3 a4 a5 a6 a7 a8 a9 a10 a11 a12 a13 a14
  have g2 := f2.alloc (.cells #[.int .i64 Ck, .int .i64 Co, .int .i64 Cr, .int .i64 Cb, .int .i64 Cx, .int .i64 Cg, .int .i64 Cn, .bool Cd] 34)
  have r2 := row_alloc w2 (cbox Ck Co Cr Cb Cx Cg Cn Cd) 34
  replace r1 := r1.keep g2 (fun h => h)
  replace f0 := f0.trans g2
  clear hR f2 g2 ra
  unfold capV
  obtain ⟨k0, k1, k2, k3, k4, k5, k6, k7⟩ := cbox_cells r1
  obtain ⟨j0, j1, j2, j3, j4, j5, j6, j7⟩ := cbox_cells r2
  go_wp2_with fail
  go_ret
  exact ⟨rfl, f0⟩

set_option maxRecDepth 100000 in
set_option maxHeartbeats 4000000 in
theorem does_res (w : World) (p : Pb) (q : Qb) (L : List Nd) (h : BoAt w p q L L) (op : Int) (id rx an ai : Int) (k o r b x g n : Int) (d : Bool) (X : Nat) (dp : Int) (hr : I64 r) (hX : X < 4294967296) (t1 : (op == 1) = false) (t2 : (op == 2) = false) (t3 : (op == 3) = false) (t4 : (op == 4) = false) :
    Calls Try.prog 11 #[.pointer (some ⟨p.b, 0, none⟩), .pointer (some ⟨q.b, 0, none⟩), .agg #[.int .i64 op, .int .i64 id, .int .i64 rx, .int .i64 an, .int .i64 ai, .int .i64 k, .int .i64 o, .int .i64 r, .int .i64 b, .int .i64 x, .int .i64 g, .int .i64 n, .bool d, .int .u32 (X : Int), .int .i64 dp]] w fun e w' => e = .returned (.bool true) ∧ Fr none' w w' := by
  have f0 := (Fr.refl none' w).alloc (.cells #[.int .i64 op, .int .i64 id, .int .i64 rx, .int .i64 an, .int .i64 ai, .int .i64 k, .int .i64 o, .int .i64 r, .int .i64 b, .int .i64 x, .int .i64 g, .int .i64 n, .bool d, .int .u32 (X : Int), .int .i64 dp] 37)
  have ra := row_alloc w (acV (Ac.mk op id rx ⟨an, ai⟩ (K.mk k o r b x g n d) X dp)) 37
  have h0 := h.keep0 f0
  have HL : Hid (∀ k, boU p q L L k → k ≠ w.heap.size) := fun k hk e => by have := h.lt k hk; omega
  have HQ : Hid (∀ w', Fr none' w w' → IsP w' p L ∧ IsQ w' q L) := fun w' f => ⟨h.pr.keep0 f, h.rf.keep0 f⟩
  clear h
  go_enter Try.func11, Try.ntmps11
  obtain ⟨⟨a0, a1, a2, a3, a4⟩, ⟨a5, a6, a7, a8, a9, a10, a11, a12⟩, a13, a14⟩ := ac_cells ra
  dsimp only at a0 a1 a2 a3 a4 a5 a6 a7 a8 a9 a10 a11 a12 a13 a14
  go_wp2_with fail
  clear h0 HL
  have hA := fun w' f => resolve_any w' p L (HQ.out w' f).1 (K.mk k o r b x g n d) hr X hX dp
  have hB := fun w' f => rresolve_any w' q L (HQ.out w' f).2 (K.mk k o r b x g n d) X hX dp
  have hC := fun w' f => slotx_any w' p L (HQ.out w' f).1 (K.mk k o r b x g n d) hr X hX dp
  have hD := fun w' f => rslotx_any w' q L (HQ.out w' f).2 (K.mk k o r b x g n d) X hX dp
  have hE := fun w' f => lookup_any w' p L (HQ.out w' f).1 (K.mk k o r b x g n d) hr X hX
  have hF := fun w' f => rlookup_any w' q L (HQ.out w' f).2 (K.mk k o r b x g n d) X hX
  clear HQ hr hX
  generalize resR L (K.mk k o r b x g n d) X dp = R at *
  generalize slotA L (K.mk k o r b x g n d) X dp = SA at *
  generalize slotE L (K.mk k o r b x g n d) X dp = SE at *
  generalize lookC L (K.mk k o r b x g n d) X = LC at *
  generalize lookA L (K.mk k o r b x g n d) X = LA at *
  generalize lookE L (K.mk k o r b x g n d) X = LE at *
  obtain ⟨⟨Rn, Ri⟩, Rl, Re⟩ := R
  obtain ⟨Sn, Si⟩ := SA
  obtain ⟨Ln, Li⟩ := LA
  obtain ⟨Ck, Co, Cr, Cb, Cx, Cg, Cn, Cd⟩ := LC
  dsimp only at hA hB hC hD hE hF
  have heq := fun w => eq_cap Ck Co Cr Cb Cx Cg Cn Ck Co Cr Cb Cx Cg Cn Cd Cd w
  rw [eqK_self] at heq
  have hr1 := fun w => eq_ref Rn Ri Rn Ri w
  have hr2 := fun w => eq_ref Sn Si Sn Si w
  have hr3 := fun w => eq_ref Ln Li Ln Li w
  rw [eqR_self] at hr1 hr2 hr3
  have tt1 : (Rl == Rl) = true := by simp
  have tt2 : (Re == Re) = true := by simp
  have tt3 : (SE == SE) = true := by simp
  have tt4 : (LE == LE) = true := by simp
  refine (hA _ f0).mono ?_
  rintro e w1 ⟨rfl, f1⟩
  clear a0 a1 a2 a3 a4 a5 a6 a7 a8 a9 a10 a11 a12 a13 a14
  have g1 := (f1.alloc (.cells #[.int .i64 Rn, .int .i64 Ri] 32))
  replace ra := ra.keep g1 (fun h => h)
  have r0 := row_alloc w1 #[.int .i64 Rn, .int .i64 Ri] 32
  replace f0 := f0.trans g1
  clear f1 g1 hA
  obtain ⟨⟨a0, a1, a2, a3, a4⟩, ⟨a5, a6, a7, a8, a9, a10, a11, a12⟩, a13, a14⟩ := ac_cells ra
  dsimp only at a0 a1 a2 a3 a4 a5 a6 a7 a8 a9 a10 a11 a12 a13 a14
  go_wp2_with fail
  refine (hB _ f0).mono ?_
  rintro e w2 ⟨rfl, f1⟩
  clear a0 a1 a2 a3 a4 a5 a6 a7 a8 a9 a10 a11 a12 a13 a14
  have g1 := (f1.alloc (.cells #[.int .i64 Rn, .int .i64 Ri] 32))
  replace ra := ra.keep g1 (fun h => h)
  replace r0 := r0.keep g1 (fun h => h)
  have r1 := row_alloc w2 #[.int .i64 Rn, .int .i64 Ri] 32
  replace f0 := f0.trans g1
  clear f1 g1 hB
  obtain ⟨⟨a0, a1, a2, a3, a4⟩, ⟨a5, a6, a7, a8, a9, a10, a11, a12⟩, a13, a14⟩ := ac_cells ra
  dsimp only at a0 a1 a2 a3 a4 a5 a6 a7 a8 a9 a10 a11 a12 a13 a14
  go_wp2_with fail
  refine (hC _ f0).mono ?_
  rintro e w3 ⟨rfl, f1⟩
  clear a0 a1 a2 a3 a4 a5 a6 a7 a8 a9 a10 a11 a12 a13 a14
  have g1 := (f1.alloc (.cells #[.int .i64 Sn, .int .i64 Si] 32))
  replace ra := ra.keep g1 (fun h => h)
  replace r0 := r0.keep g1 (fun h => h)
  replace r1 := r1.keep g1 (fun h => h)
  have r2 := row_alloc w3 #[.int .i64 Sn, .int .i64 Si] 32
  replace f0 := f0.trans g1
  clear f1 g1 hC
  obtain ⟨⟨a0, a1, a2, a3, a4⟩, ⟨a5, a6, a7, a8, a9, a10, a11, a12⟩, a13, a14⟩ := ac_cells ra
  dsimp only at a0 a1 a2 a3 a4 a5 a6 a7 a8 a9 a10 a11 a12 a13 a14
  go_wp2_with fail
  refine (hD _ f0).mono ?_
  rintro e w4 ⟨rfl, f1⟩
  clear a0 a1 a2 a3 a4 a5 a6 a7 a8 a9 a10 a11 a12 a13 a14
  have g1 := (f1.alloc (.cells #[.int .i64 Sn, .int .i64 Si] 32))
  replace ra := ra.keep g1 (fun h => h)
  replace r0 := r0.keep g1 (fun h => h)
  replace r1 := r1.keep g1 (fun h => h)
  replace r2 := r2.keep g1 (fun h => h)
  have r3 := row_alloc w4 #[.int .i64 Sn, .int .i64 Si] 32
  replace f0 := f0.trans g1
  clear f1 g1 hD
  obtain ⟨⟨a0, a1, a2, a3, a4⟩, ⟨a5, a6, a7, a8, a9, a10, a11, a12⟩, a13, a14⟩ := ac_cells ra
  dsimp only at a0 a1 a2 a3 a4 a5 a6 a7 a8 a9 a10 a11 a12 a13 a14
  go_wp2_with fail
  refine (hE _ f0).mono ?_
  rintro e w5 ⟨rfl, f1⟩
  clear a0 a1 a2 a3 a4 a5 a6 a7 a8 a9 a10 a11 a12 a13 a14
  have g1 := ((f1.alloc (.cells #[.int .i64 Ck, .int .i64 Co, .int .i64 Cr, .int .i64 Cb, .int .i64 Cx, .int .i64 Cg, .int .i64 Cn, .bool Cd] 34)).alloc (.cells #[.int .i64 Ln, .int .i64 Li] 32))
  replace ra := ra.keep g1 (fun h => h)
  replace r0 := r0.keep g1 (fun h => h)
  replace r1 := r1.keep g1 (fun h => h)
  replace r2 := r2.keep g1 (fun h => h)
  replace r3 := r3.keep g1 (fun h => h)
  have c4 := (row_alloc w5 (cbox Ck Co Cr Cb Cx Cg Cn Cd) 34).alloc (.cells #[.int .i64 Ln, .int .i64 Li] 32)
  have r4 := row_alloc1 w5 (.cells #[.int .i64 Ck, .int .i64 Co, .int .i64 Cr, .int .i64 Cb, .int .i64 Cx, .int .i64 Cg, .int .i64 Cn, .bool Cd] 34) #[.int .i64 Ln, .int .i64 Li] 32
  unfold capV
  replace f0 := f0.trans g1
  clear f1 g1 hE
  obtain ⟨⟨a0, a1, a2, a3, a4⟩, ⟨a5, a6, a7, a8, a9, a10, a11, a12⟩, a13, a14⟩ := ac_cells ra
  dsimp only at a0 a1 a2 a3 a4 a5 a6 a7 a8 a9 a10 a11 a12 a13 a14
  go_wp2_with fail
  refine (hF _ f0).mono ?_
  rintro e w6 ⟨rfl, f1⟩
  clear a0 a1 a2 a3 a4 a5 a6 a7 a8 a9 a10 a11 a12 a13 a14
  have g1 := ((f1.alloc (.cells #[.int .i64 Ck, .int .i64 Co, .int .i64 Cr, .int .i64 Cb, .int .i64 Cx, .int .i64 Cg, .int .i64 Cn, .bool Cd] 34)).alloc (.cells #[.int .i64 Ln, .int .i64 Li] 32))
  replace ra := ra.keep g1 (fun h => h)
  replace r0 := r0.keep g1 (fun h => h)
  replace r1 := r1.keep g1 (fun h => h)
  replace r2 := r2.keep g1 (fun h => h)
  replace r3 := r3.keep g1 (fun h => h)
  replace c4 := c4.keep g1 (fun h => h)
  replace r4 := r4.keep g1 (fun h => h)
  have c5 := (row_alloc w6 (cbox Ck Co Cr Cb Cx Cg Cn Cd) 34).alloc (.cells #[.int .i64 Ln, .int .i64 Li] 32)
  have r5 := row_alloc1 w6 (.cells #[.int .i64 Ck, .int .i64 Co, .int .i64 Cr, .int .i64 Cb, .int .i64 Cx, .int .i64 Cg, .int .i64 Cn, .bool Cd] 34) #[.int .i64 Ln, .int .i64 Li] 32
  unfold capV
  replace f0 := f0.trans g1
  clear f1 g1 hF
  obtain ⟨r0x, r0y, _, _⟩ := pair_cells r0
  obtain ⟨r1x, r1y, _, _⟩ := pair_cells r1
  obtain ⟨r2x, r2y, _, _⟩ := pair_cells r2
  obtain ⟨r3x, r3y, _, _⟩ := pair_cells r3
  obtain ⟨c4k0, c4k1, c4k2, c4k3, c4k4, c4k5, c4k6, c4k7⟩ := cbox_cells c4
  obtain ⟨r4x, r4y, _, _⟩ := pair_cells r4
  obtain ⟨c5k0, c5k1, c5k2, c5k3, c5k4, c5k5, c5k6, c5k7⟩ := cbox_cells c5
  obtain ⟨r5x, r5y, _, _⟩ := pair_cells r5
  clear ra r0 r1 r2 r3 c4 r4 c5 r5
  go_wp2_with fail
  go_ret
  exact ⟨rfl, f0⟩

theorem does_any (w : World) (p : Pb) (q : Qb) (L : List Nd) (h : BoAt w p q L L) (a : Ac) (ok : OkA a) :
    Calls Try.prog 11 #[.pointer (some ⟨p.b, 0, none⟩), .pointer (some ⟨q.b, 0, none⟩), .agg (acV a)] w fun e w' => e = .returned (.bool true) ∧ ChgB w p q L w' (stepS L a) := by
  obtain ⟨op, id, rx, ⟨an, ai⟩, ⟨k, o, r, b, x, g, n, d⟩, X, dp⟩ := a
  obtain ⟨ok1, ok2, ok3, ok4⟩ := ok
  by_cases h1 : op = 1
  · subst h1
    exact does_add w p q L h id rx an ai k o r b x g n d X dp
  by_cases h2 : op = 2
  · subst h2
    exact does_drop w p q L h id rx an ai k o r b x g n d X dp ok1
  by_cases h3 : op = 3
  · subst h3
    exact does_put w p q L h id rx an ai k o r b x g n d X dp ok2 ok3
  have e : stepS L (Ac.mk op id rx ⟨an, ai⟩ (K.mk k o r b x g n d) X dp) = L := by unfold stepS; rw [if_neg h1, if_neg h2, if_neg h3]
  rw [e]
  by_cases h4 : op = 4
  · subst h4
    exact (does_get w p q L h id rx an ai k o r b x g n d X dp ok2).mono fun _ _ ⟨q1, q2⟩ => ⟨q1, ChgB.same h q2⟩
  · exact (does_res w p q L h op id rx an ai k o r b x g n d X dp ok3 ok4 (by simpa using h1) (by simpa using h2) (by simpa using h3) (by simpa using h4)).mono fun _ _ ⟨q1, q2⟩ => ⟨q1, ChgB.same h q2⟩

end Go.Proofs.Ytibdkadojoeopaa
