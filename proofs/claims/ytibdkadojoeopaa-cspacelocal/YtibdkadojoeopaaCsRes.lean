/-
  The contract of package cspace's Resolve over the translation. No statement is proved here.
-/
import Derived.Test.YtibdkadojoeopaaCsStep
import Derived.WalkMore
namespace Go.Proofs.Ytibdkadojoeopaa
open Go.RowKit Go.Maps Go.WideMaps

theorem resF_bad {L : List Nd} {f : Nat} {c : K} {x l : Nat} {E : Int} (h : stepE L c x l = E) (h0 : E ≠ 0) : resF L (f + 1) c x l = bad E := by
  unfold resF; rw [h, if_pos h0]
theorem resF_end {L : List Nd} {f : Nat} {c : K} {x l : Nat} (h : stepE L c x l = 0) (h0 : stepL c l = 0 ∨ (getC L (stepA c x l)).k ≠ 2) : resF L (f + 1) c x l = ⟨stepA c x l, stepL c l, 0⟩ := by
  unfold resF; rw [h, if_neg (by simp), if_pos h0]
theorem resF_go {L : List Nd} {f : Nat} {c : K} {x l : Nat} (h : stepE L c x l = 0) (h0 : ¬ (stepL c l = 0 ∨ (getC L (stepA c x l)).k ≠ 2)) : resF L (f + 1) c x l = resF L f (getC L (stepA c x l)) x (stepL c l) := by
  conv => lhs; unfold resF
  rw [h, if_neg (by simp), if_neg h0]

def lm (g : Nat) (w : World) : Nat := match w.cell? ⟨g, 1, none⟩ with
  | some (.int _ l) => l.toNat
  | _ => 0
theorem lm_row {w : World} {g : Nat} {u : Value} {l : Nat} {t : TypeId} (h : Row w g #[u, .int .i64 (l : Int)] t) : lm g w = l := by
  have e : w.cell? ⟨g, 1, none⟩ = some (.int .i64 (l : Int)) := h.cell 1
  unfold lm
  rw [e]
  simp

/-- Where a walk through the nodes stands. -/
structure ResI (w wr : World) (p : Pb) (L : List Nd) (g8 g11 g12 x : Nat) (R : Rs) (c : K) (l f : Nat) (a : Rf) : Prop where
  rc : rightC c = true
  ck : c.k = 2
  l1 : 1 ≤ l
  l2 : l ≤ 16
  lf : l ≤ f
  res : resF L f c x l = R
  r8 : Row wr g8 #[.int .i64 a.n, .int .i64 a.i] 32
  r11 : Row wr g11 (capV c) 34
  r12 : Row wr g12 #[.int .u32 (x : Int), .int .i64 (l : Int)] 76
  is : IsP wr p L
  fr : Fr none' w wr

set_option maxRecDepth 100000 in
set_option maxHeartbeats 1000000 in
theorem res_root (w : World) (P : Value) (k o r b x g n : Int) (d : Bool) (hr : I64 r) (X : Int) (dp : Int) (h : (k == 2 && rightC (K.mk k o r b x g n d)) = false) : Calls Try.prog 17 #[P, .agg #[.int .i64 k, .int .i64 o, .int .i64 r, .int .i64 b, .int .i64 x, .int .i64 g, .int .i64 n, .bool d], .int .u32 X, .int .i64 dp] w fun e w' => e = .returned (.tuple #[.agg #[.int .i64 0, .int .i64 0], .int .i64 0, .int .i64 121]) ∧ Fr none' w w' := by
  have f0 := ((Fr.refl none' w).alloc (.cells (cbox k o r b x g n d) 34)).alloc (.cells #[.int .i64 0, .int .i64 0] 32)
  have r0 := row_alloc1 w (.cells (cbox k o r b x g n d) 34) #[.int .i64 0, .int .i64 0] 32
  have rc := (row_alloc w (cbox k o r b x g n d) 34).alloc (.cells #[.int .i64 0, .int .i64 0] 32)
  have R := fun w => right_any k o r b x g n d w hr
  unfold cbox at f0 r0 rc
  cases hk : (k == 2) with
  | false =>
    have hk' : (k != 2) = true := by simp [bne, hk]
    have HR : Hid (Row ((w.alloc (.cells #[.int .i64 k, .int .i64 o, .int .i64 r, .int .i64 b, .int .i64 x, .int .i64 g, .int .i64 n, .bool d] 34)).alloc (.cells #[.int .i64 0, .int .i64 0] 32)) (w.heap.size + 1) #[.int .i64 0, .int .i64 0] 32) := r0
    clear r0 rc R h
    go_enter Try.func17, Try.ntmps17
    go_wp2_with fail
    go_step3
    go_wp2_with fail
    try rw [Exit.noGoto_ret]
    refine bodyPost_ret (ret_rtt rfl rfl HR.out rfl) rfl ?_
    exact ⟨rfl, f0⟩
  | true =>
    have hk' : (k != 2) = false := by simp [bne, hk]
    rw [hk, Bool.true_and] at h
    rw [h] at R
    go_enter Try.func17, Try.ntmps17
    go_wp2_with fail
    go_step3
    go_wp2_with fail
    refine (R _).mono ?_
    rintro e w1 ⟨rfl, f1⟩
    replace r0 := r0.keep f1 (fun h => h)
    obtain ⟨c0, c1, z0, z1⟩ := pair_cells r0
    have HR : Hid (Row (pput w1 (w.heap.size + 1) (.int .i64 0) (.int .i64 0)) (w.heap.size + 1) #[.int .i64 0, .int .i64 0] 32 ∧ Fr none' w (pput w1 (w.heap.size + 1) (.int .i64 0) (.int .i64 0))) := ⟨pair_set r0 _ _, pair_fr _ _ (f0.trans f1) (Or.inl (by omega))⟩
    clear r0 f0 f1 rc
    go_wp2_with fail
    try rw [Exit.noGoto_ret]
    refine bodyPost_ret (ret_rtt rfl rfl HR.out.1 rfl) rfl ?_
    exact ⟨rfl, HR.out.2⟩

set_option maxRecDepth 100000 in
set_option maxHeartbeats 1000000 in
theorem res_depth (w : World) (P : Value) (o r b x g n : Int) (d : Bool) (X : Int) (dp : Int) (hR : rightC (K.mk 2 o r b x g n d) = true) (h : (decide (1 ≤ dp) && decide (dp ≤ 16)) = false) : Calls Try.prog 17 #[P, .agg #[.int .i64 2, .int .i64 o, .int .i64 r, .int .i64 b, .int .i64 x, .int .i64 g, .int .i64 n, .bool d], .int .u32 X, .int .i64 dp] w fun e w' => e = .returned (.tuple #[.agg #[.int .i64 0, .int .i64 0], .int .i64 0, .int .i64 123]) ∧ Fr none' w w' := by
  have f0 := ((Fr.refl none' w).alloc (.cells (cbox 2 o r b x g n d) 34)).alloc (.cells #[.int .i64 0, .int .i64 0] 32)
  have r0 := row_alloc1 w (.cells (cbox 2 o r b x g n d) 34) #[.int .i64 0, .int .i64 0] 32
  have R := fun w => right_any 2 o r b x g n d w (r_i64 hR)
  rw [hR] at R
  unfold cbox at f0 r0
  go_enter Try.func17, Try.ntmps17
  go_wp2_with fail
  go_step3
  go_wp2_with fail
  refine (R _).mono ?_
  rintro e w1 ⟨rfl, f1⟩
  replace r0 := r0.keep f1 (fun h => h)
  obtain ⟨c0, c1, z0, z1⟩ := pair_cells r0
  have HR : Hid (Row (pput w1 (w.heap.size + 1) (.int .i64 0) (.int .i64 0)) (w.heap.size + 1) #[.int .i64 0, .int .i64 0] 32 ∧ Fr none' w (pput w1 (w.heap.size + 1) (.int .i64 0) (.int .i64 0))) := ⟨pair_set r0 _ _, pair_fr _ _ (f0.trans f1) (Or.inl (by omega))⟩
  clear r0 f0 f1
  go_wp2_with (go_at_call 39; refine (swithin_any _ _ _ _).mono ?_; rintro e w2 ⟨rfl, rfl⟩; rw [h])
  try rw [Exit.noGoto_ret]
  refine bodyPost_ret (ret_rtt rfl rfl HR.out.1 rfl) rfl ?_
  exact ⟨rfl, HR.out.2⟩

set_option maxRecDepth 100000 in
set_option maxHeartbeats 1000000 in
theorem res_loop (w : World) (p : Pb) (L : List Nd) (h : IsP w p L) (o r b x g n : Int) (d : Bool) (X : Nat) (hX : X < 4294967296) (D : Nat) (hD : 1 ≤ D ∧ D ≤ 16) (hR : rightC (K.mk 2 o r b x g n d) = true) (R : Rs) (hS : resF L 16 (K.mk 2 o r b x g n d) X D = R) : Calls Try.prog 17 #[.pointer (some ⟨p.b, 0, none⟩), .agg #[.int .i64 2, .int .i64 o, .int .i64 r, .int .i64 b, .int .i64 x, .int .i64 g, .int .i64 n, .bool d], .int .u32 (X : Int), .int .i64 (D : Int)] w fun e w' => e = .returned (.tuple #[.agg #[.int .i64 R.at'.n, .int .i64 R.at'.i], .int .i64 R.left, .int .i64 R.e]) ∧ Fr none' w w' := by
  have f0 := ((Fr.refl none' w).alloc (.cells (cbox 2 o r b x g n d) 34)).alloc (.cells #[.int .i64 0, .int .i64 0] 32)
  have r0 := row_alloc1 w (.cells (cbox 2 o r b x g n d) 34) #[.int .i64 0, .int .i64 0] 32
  have rc := (row_alloc w (cbox 2 o r b x g n d) 34).alloc (.cells #[.int .i64 0, .int .i64 0] 32)
  have RR := fun w => right_any 2 o r b x g n d w (r_i64 hR)
  rw [hR] at RR
  unfold cbox at f0 r0 rc
  have hd : (decide ((1 : Int) ≤ (D : Int)) && decide ((D : Int) ≤ 16)) = true := by simp; omega
  have h0 := h.keep0 f0
  have HB : Hid (∀ q, w.heap.size ≤ q → ¬ p.s L q) := fun q hq hs => by have := h.lt q hs; omega
  have HS : Hid (resF L 16 (K.mk 2 o r b x g n d) X D = R) := hS
  clear h hS
  go_enter Try.func17, Try.ntmps17
  go_wp2_with fail
  go_step3
  go_wp2_with fail
  refine (RR _).mono ?_
  rintro e w1 ⟨rfl, f1⟩
  replace r0 := r0.keep f1 (fun h => h)
  replace rc := rc.keep f1 (fun h => h)
  replace h0 := h0.keep0 f1
  replace f0 := f0.trans f1
  have hlt := rc.lt
  have hle : w.heap.size + 1 < w1.heap.size := r0.lt
  clear f1
  obtain ⟨k0, k1, k2, k3, k4, k5, k6, k7⟩ := cbox_cells rc
  go_wp2_with (go_at_call 39; refine (swithin_any _ _ _ _).mono ?_; rintro e w2 ⟨rfl, rfl⟩; rw [hd])
  clear k0 k1 k2 k3 k4 k5 k6 k7
  have f2 := (Fr.refl none' w2).alloc (.cells #[.int .i64 2, .int .i64 o, .int .i64 r, .int .i64 b, .int .i64 x, .int .i64 g, .int .i64 n, .bool d] 34) |>.alloc (.cells #[.int .u32 (X : Int), .int .i64 (D : Int)] 76)
  have q11 := (row_alloc w2 (capV (K.mk 2 o r b x g n d)) 34).alloc (.cells #[.int .u32 (X : Int), .int .i64 (D : Int)] 76)
  have q12 := row_alloc1 w2 (.cells #[.int .i64 2, .int .i64 o, .int .i64 r, .int .i64 b, .int .i64 x, .int .i64 g, .int .i64 n, .bool d] 34) #[.int .u32 (X : Int), .int .i64 (D : Int)] 76
  have HI : Hid (ResI w ((w2.alloc (.cells #[.int .i64 2, .int .i64 o, .int .i64 r, .int .i64 b, .int .i64 x, .int .i64 g, .int .i64 n, .bool d] 34)).alloc (.cells #[.int .u32 (X : Int), .int .i64 (D : Int)] 76)) p L (w.heap.size + 1) w2.heap.size (w2.heap.size + 1) X R (K.mk 2 o r b x g n d) D 16 ⟨0, 0⟩) :=
    ⟨hR, rfl, hD.1, hD.2, hD.2, HS.out, r0.keep f2 (fun h => h), q11, q12, h0.keep0 f2, f0.trans f2⟩
  clear HS hR RR hd r0 rc h0 f0 hlt hD f2 q11 q12
  go_step3
  go_wp2_with fail
  generalize ((w2.alloc (.cells #[.int .i64 2, .int .i64 o, .int .i64 r, .int .i64 b, .int .i64 x, .int .i64 g, .int .i64 n, .bool d] 34)).alloc (.cells #[.int .u32 (X : Int), .int .i64 (D : Int)] 76)) = v0 at *
  generalize w2.heap.size = G at *
  go_loopw [10] (fun e wr => ∃ c l f a, Hid (ResI w wr p L (w.heap.size + 1) G (G + 1) X R c l f a)) (fun _ wr => lm (G + 1) wr)
  case atStart => exact ⟨_, _, _, _, HI.out⟩
  case round =>
    obtain ⟨c, l, f, a, hI⟩ := hrel
    clear HI
    obtain ⟨i1, i2, i3, i4, i5, i6, r8, r11, r12, is, fr⟩ := hI.out
    have hlm : lm (G + 1) wr = l := lm_row r12
    clear hI
    obtain ⟨f, rfl⟩ : ∃ f', f = f' + 1 := ⟨f - 1, by omega⟩
    by_cases hE : stepE L c X l = 0
    · have hs := step_good wr p L is c i1 i2 X l hX i4 hE
      have hcn := right_cn i1 i2
      have hA : I64 (stepA c X l).n := by show I64 c.o; unfold I64; omega
      have hl2 : stepL c l < l := by
        have := stepE_zero hE
        unfold stepL
        omega
      have HX : Hid ((stepL c l = 0 ∨ (getC L (stepA c X l)).k ≠ 2 → R = ⟨stepA c X l, stepL c l, 0⟩) ∧ (¬ (stepL c l = 0 ∨ (getC L (stepA c X l)).k ≠ 2) → resF L f (getC L (stepA c X l)) X (stepL c l) = R)) :=
        ⟨fun hh => by rw [← i6]; exact resF_end hE hh, fun hh => by rw [← i6]; exact (resF_go hE hh).symm⟩
      have hgr := right_get is.good (stepA c X l)
      generalize stepA c X l = A at *
      generalize stepL c l = l2 at *
      obtain ⟨An, Ai⟩ := A
      obtain ⟨ck, co, cr, cb, cx, cg, cn, cd⟩ := c
      replace hs : Calls Try.prog 40 #[.pointer (some ⟨p.b, 0, none⟩), .agg #[.int .i64 ck, .int .i64 co, .int .i64 cr, .int .i64 cb, .int .i64 cx, .int .i64 cg, .int .i64 cn, .bool cd], .agg #[.int .u32 (X : Int), .int .i64 (l : Int)]] wr fun e w' => e = .returned (.tuple #[.agg #[.int .i64 An, .int .i64 Ai], .agg #[.int .u32 (X : Int), .int .i64 (l2 : Int)], .int .i64 0]) ∧ Fr none' wr w' := hs
      have HL : Hid (lm (G + 1) wr = l ∧ l2 < l ∧ l ≤ 16 ∧ l ≤ f + 1) := ⟨hlm, hl2, i4, i5⟩
      obtain ⟨k0, k1, k2, k3, k4, k5, k6, k7⟩ := cbox_cells r11
      obtain ⟨a0, a1, y0, y1⟩ := pair_cells r12
      clear i1 i2 i6 hE i3 i4 i5 hlm hl2 hcn
      by_cases hz : l2 = 0
      · have HRs : Hid (R = ⟨⟨An, Ai⟩, l2, 0⟩) := HX.out.1 (Or.inl hz)
        have hz' : ((l2 : Int) == 0) = true := by simpa using hz
        clear HX hz hgr hA HL
        go_wp2_with fail
        refine hs.mono ?_
        rintro e w3 ⟨rfl, f3⟩
        clear k0 k1 k2 k3 k4 k5 k6 k7 a0 a1 y0 y1 hs
        replace r8 := r8.keep f3 (fun h => h)
        replace r12 := r12.keep f3 (fun h => h)
        replace fr := fr.trans f3
        obtain ⟨s0, s1, q0, q1⟩ := pair_cells r8
        obtain ⟨a0, a1, y0, y1⟩ := pair_cells r12
        have HR : Hid (Row (pput (pput (pput w3 (w.heap.size + 1) (.int .i64 An) (.int .i64 Ai)) (G + 1) (.int .u32 (X : Int)) (.int .i64 (l2 : Int))) (w.heap.size + 1) (.int .i64 An) (.int .i64 Ai)).drew (w.heap.size + 1) #[.int .i64 An, .int .i64 Ai] 32 ∧ Fr none' w (pput (pput (pput w3 (w.heap.size + 1) (.int .i64 An) (.int .i64 Ai)) (G + 1) (.int .u32 (X : Int)) (.int .i64 (l2 : Int))) (w.heap.size + 1) (.int .i64 An) (.int .i64 Ai)).drew) :=
          ⟨(pair_set (pair_other (pair_set r8 _ _) (by omega) _ _) _ _).drew, (pair_fr _ _ (pair_fr _ _ (pair_fr _ _ fr (Or.inl (by omega))) (Or.inl (by omega))) (Or.inl (by omega))).drew⟩
        clear r8 r11 r12 fr f3 is
        go_wp2_with fail
        go_region
        all_goals go_wp2_with fail
        all_goals (try rw [Exit.noGoto_ret])
        all_goals (refine bodyPost_ret (ret_rtt rfl rfl HR.out.1 rfl) rfl ?_; exact ⟨by rw [HRs.out]; rfl, HR.out.2⟩)
      · have hz' : ((l2 : Int) == 0) = false := by simpa using hz
        have HZ : Hid (l2 ≠ 0) := hz
        clear hz
        go_wp2_with fail
        refine hs.mono ?_
        rintro e w3 ⟨rfl, f3⟩
        clear k0 k1 k2 k3 k4 k5 k6 k7 a0 a1 y0 y1 hs
        replace r8 := r8.keep f3 (fun h => h)
        replace r11 := r11.keep f3 (fun h => h)
        replace r12 := r12.keep f3 (fun h => h)
        replace fr := fr.trans f3
        replace is := is.keep0 f3
        clear f3
        obtain ⟨s0, s1, q0, q1⟩ := pair_cells r8
        obtain ⟨a0, a1, y0, y1⟩ := pair_cells r12
        go_wp2_with fail
        clear s0 s1 q0 q1 a0 a1 y0 y1
        replace is := is.keep (pair_fr (S := fun k => w.heap.size ≤ k) (.int .u32 (X : Int)) (.int .i64 (l2 : Int)) (pair_fr (.int .i64 An) (.int .i64 Ai) (Fr.refl _ w3) (p := w.heap.size + 1) (Or.inr (by show _ ≤ _; omega))) (p := G + 1) (Or.inr (by show _ ≤ _; omega))) (fun k hk e => HB.out k e hk)
        replace r11 := pair_other (pair_other r11 (p' := w.heap.size + 1) (by omega) (.int .i64 An) (.int .i64 Ai)) (p' := G + 1) (by omega) (.int .u32 (X : Int)) (.int .i64 (l2 : Int))
        replace r8 := pair_other (pair_set r8 (.int .i64 An) (.int .i64 Ai)) (p' := G + 1) (by omega) (.int .u32 (X : Int)) (.int .i64 (l2 : Int))
        replace r12 := pair_set (pair_other r12 (p' := w.heap.size + 1) (by omega) (.int .i64 An) (.int .i64 Ai)) (.int .u32 (X : Int)) (.int .i64 (l2 : Int))
        replace fr := pair_fr (.int .u32 (X : Int)) (.int .i64 (l2 : Int)) (pair_fr (.int .i64 An) (.int .i64 Ai) fr (p := w.heap.size + 1) (Or.inl (by omega))) (p := G + 1) (Or.inl (by omega))
        have hgt := get_any _ p L is ⟨An, Ai⟩ hA
        generalize getC L ⟨An, Ai⟩ = C at *
        generalize getE L ⟨An, Ai⟩ = GE at *
        obtain ⟨Ck, Co, Cr, Cb, Cx, Cg, Cn, Cd⟩ := C
        replace hgt : Calls Try.prog 20 #[.pointer (some ⟨p.b, 0, none⟩), .agg #[.int .i64 An, .int .i64 Ai]] (pput (pput w3 (w.heap.size + 1) (.int .i64 An) (.int .i64 Ai)) (G + 1) (.int .u32 (X : Int)) (.int .i64 (l2 : Int))) fun e w' => e = .returned (.tuple #[.agg #[.int .i64 Ck, .int .i64 Co, .int .i64 Cr, .int .i64 Cb, .int .i64 Cx, .int .i64 Cg, .int .i64 Cn, .bool Cd], .int .i64 GE]) ∧ Fr none' (pput (pput w3 (w.heap.size + 1) (.int .i64 An) (.int .i64 Ai)) (G + 1) (.int .u32 (X : Int)) (.int .i64 (l2 : Int))) w' := hgt
        refine hgt.mono ?_
        rintro e w4 ⟨rfl, f4⟩
        clear hgt
        replace r8 := r8.keep f4 (fun h => h)
        replace r11 := r11.keep f4 (fun h => h)
        replace r12 := r12.keep f4 (fun h => h)
        replace fr := fr.trans f4
        replace is := is.keep0 f4
        clear f4
        obtain ⟨k0, k1, k2, k3, k4, k5, k6, k7⟩ := cbox_cells r11
        obtain ⟨z0, z1, z2, z3, z4, z5, z6, z7⟩ := cbox_frozen r11
        obtain ⟨s0, s1, q0, q1⟩ := pair_cells r8
        obtain ⟨a0, a1, y0, y1⟩ := pair_cells r12
        have R11 := cbox_set (k' := Ck) (o' := Co) (r' := Cr) (b' := Cb) (x' := Cx) (g' := Cg) (n' := Cn) (d' := Cd) r11
        have R8 := cput_other r8 (p' := G) (by omega) Ck Co Cr Cb Cx Cg Cn Cd
        have R12 := cput_other r12 (p' := G) (by omega) Ck Co Cr Cb Cx Cg Cn Cd
        have FR := cbox_fr (p := G) Ck Co Cr Cb Cx Cg Cn Cd fr (Or.inl (by omega))
        have IS := is.keep (cbox_fr (S := at' G) (p := G) Ck Co Cr Cb Cx Cg Cn Cd (Fr.refl _ w4) (Or.inr rfl)) (fun k hk e => HB.out G (by omega) (e ▸ hk))
        have fA := pair_fr (.int .i64 An) (.int .i64 Ai) FR (p := w.heap.size + 1) (Or.inl (by omega))
        have rA := pair_set R8 (.int .i64 An) (.int .i64 Ai)
        by_cases hk2 : Ck = 2
        · have t2 : (Ck != 2) = false := by simpa using hk2
          have HN : Hid (ResI w (cput w4 G Ck Co Cr Cb Cx Cg Cn Cd) p L (w.heap.size + 1) G (G + 1) X R (K.mk Ck Co Cr Cb Cx Cg Cn Cd) l2 f ⟨An, Ai⟩) :=
            ⟨hgr, hk2, by have := HZ.out; omega, by have := HL.out; omega, by have := HL.out; omega, HX.out.2 (by rintro (h | h); exact HZ.out h; exact h hk2), R8, R11, R12, IS, FR⟩
          have HM : Hid (lm (G + 1) (cput w4 G Ck Co Cr Cb Cx Cg Cn Cd) < lm (G + 1) wr) := by
            show _ < _
            rw [lm_row R12, HL.out.1]; exact HL.out.2.1
          clear r8 r11 r12 fr is R11 R8 R12 FR IS fA rA hk2 hgr HX HL HZ hA
          go_wp2_with fail
          go_roundw
          case rel => exact ⟨_, _, _, _, HN.out⟩
          case measure => exact HM.out
        · have t2 : (Ck != 2) = true := by simpa using hk2
          have HRs : Hid (R = ⟨⟨An, Ai⟩, l2, 0⟩) := HX.out.1 (Or.inr hk2)
          have HR : Hid (Row (pput (cput w4 G Ck Co Cr Cb Cx Cg Cn Cd) (w.heap.size + 1) (.int .i64 An) (.int .i64 Ai)).drew (w.heap.size + 1) #[.int .i64 An, .int .i64 Ai] 32 ∧ Fr none' w (pput (cput w4 G Ck Co Cr Cb Cx Cg Cn Cd) (w.heap.size + 1) (.int .i64 An) (.int .i64 Ai)).drew) := ⟨rA.drew, fA.drew⟩
          clear r8 r11 r12 fr is R11 R8 R12 FR IS fA rA hk2 hgr HX HL HZ hA
          go_wp2_with fail
          go_region
          all_goals go_wp2_with fail
          all_goals (try rw [Exit.noGoto_ret])
          all_goals (refine bodyPost_ret (ret_rtt rfl rfl HR.out.1 rfl) rfl ?_; exact ⟨by rw [HRs.out]; rfl, HR.out.2⟩)
    · have hs := step_bad wr p L is c i1 i2 X l hX i4 _ rfl hE
      have HRs : Hid (R = bad (stepE L c X l)) := by rw [← i6]; exact resF_bad rfl hE
      have hE' : (stepE L c X l != 0) = true := by simpa using hE
      generalize stepE L c X l = E at *
      obtain ⟨ck, co, cr, cb, cx, cg, cn, cd⟩ := c
      replace hs : Calls Try.prog 40 #[.pointer (some ⟨p.b, 0, none⟩), .agg #[.int .i64 ck, .int .i64 co, .int .i64 cr, .int .i64 cb, .int .i64 cx, .int .i64 cg, .int .i64 cn, .bool cd], .agg #[.int .u32 (X : Int), .int .i64 (l : Int)]] wr fun e w' => e = .returned (.tuple #[.agg #[.int .i64 0, .int .i64 0], .agg #[.int .u32 0, .int .i64 0], .int .i64 E]) ∧ Fr none' wr w' := hs
      obtain ⟨k0, k1, k2, k3, k4, k5, k6, k7⟩ := cbox_cells r11
      obtain ⟨a0, a1, y0, y1⟩ := pair_cells r12
      clear i1 i2 i6 hE i3 i4 i5 hlm is
      go_wp2_with fail
      refine hs.mono ?_
      rintro e w3 ⟨rfl, f3⟩
      clear k0 k1 k2 k3 k4 k5 k6 k7 a0 a1 y0 y1 hs
      replace r8 := r8.keep f3 (fun h => h)
      replace r12 := r12.keep f3 (fun h => h)
      replace fr := fr.trans f3
      obtain ⟨s0, s1, q0, q1⟩ := pair_cells r8
      obtain ⟨a0, a1, y0, y1⟩ := pair_cells r12
      have HR : Hid (Row (pput (pput (pput w3 (w.heap.size + 1) (.int .i64 0) (.int .i64 0)) (G + 1) (.int .u32 0) (.int .i64 0)) (w.heap.size + 1) (.int .i64 0) (.int .i64 0)) (w.heap.size + 1) #[.int .i64 0, .int .i64 0] 32 ∧ Fr none' w (pput (pput (pput w3 (w.heap.size + 1) (.int .i64 0) (.int .i64 0)) (G + 1) (.int .u32 0) (.int .i64 0)) (w.heap.size + 1) (.int .i64 0) (.int .i64 0))) :=
        ⟨pair_set (pair_other (pair_set r8 _ _) (by omega) _ _) _ _, pair_fr _ _ (pair_fr _ _ (pair_fr _ _ fr (Or.inl (by omega))) (Or.inl (by omega))) (Or.inl (by omega))⟩
      clear r8 r11 r12 fr f3
      go_wp2_with fail
      try rw [Exit.noGoto_ret]
      refine bodyPost_ret (ret_rtt rfl rfl HR.out.1 rfl) rfl ?_
      exact ⟨by rw [HRs.out]; rfl, HR.out.2⟩

end Go.Proofs.Ytibdkadojoeopaa
