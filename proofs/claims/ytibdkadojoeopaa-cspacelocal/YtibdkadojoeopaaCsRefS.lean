/-
  The contract of the document's Resolve over the translation. No statement is proved here.
-/
import Derived.Test.YtibdkadojoeopaaCsRefR
namespace Go.Proofs.Ytibdkadojoeopaa
open Go.RowKit Go.Maps Go.WideMaps

set_option maxRecDepth 100000 in
set_option maxHeartbeats 1000000 in
theorem rres_root (w : World) (P : Value) (k o r b x g n : Int) (d : Bool) (X : Int) (dp : Int) (h : (k == 2 && rightC (K.mk k o r b x g n d)) = false) : Calls Try.prog 30 #[P, .agg #[.int .i64 k, .int .i64 o, .int .i64 r, .int .i64 b, .int .i64 x, .int .i64 g, .int .i64 n, .bool d], .int .u32 X, .int .i64 dp] w fun e w' => e = .returned (.tuple #[.agg #[.int .i64 0, .int .i64 0], .int .i64 0, .int .i64 121]) ∧ Fr none' w w' := by
  have f0 := ((Fr.refl none' w).alloc (.cells (cbox k o r b x g n d) 34)).alloc (.cells #[.int .i64 0, .int .i64 0] 32)
  have r0 := row_alloc1 w (.cells (cbox k o r b x g n d) 34) #[.int .i64 0, .int .i64 0] 32
  have rc := (row_alloc w (cbox k o r b x g n d) 34).alloc (.cells #[.int .i64 0, .int .i64 0] 32)
  have R := fun w => rright_any k o r b x g n d w
  unfold cbox at f0 r0 rc
  have hh : rightC (K.mk k o r b x g n d) = false ∨ (rightC (K.mk k o r b x g n d) = true ∧ (k != 2) = true) := by
    cases hR : rightC (K.mk k o r b x g n d) with
    | false => exact Or.inl rfl
    | true =>
      rw [hR, Bool.and_true] at h
      exact Or.inr ⟨rfl, by simp [bne, h]⟩
  clear h
  rcases hh with hR | ⟨hR, hk⟩
  · rw [hR] at R
    go_enter Try.func30, Try.ntmps30
    go_wp2_with fail
    refine (R _).mono ?_
    rintro e w1 ⟨rfl, f1⟩
    replace r0 := r0.keep f1 (fun h => h)
    obtain ⟨c0, c1, z0, z1⟩ := pair_cells r0
    have HR : Hid (Row (pput w1 (w.heap.size + 1) (.int .i64 0) (.int .i64 0)) (w.heap.size + 1) #[.int .i64 0, .int .i64 0] 32 ∧ Fr none' w (pput w1 (w.heap.size + 1) (.int .i64 0) (.int .i64 0))) := ⟨pair_set r0 _ _, pair_fr _ _ (f0.trans f1) (Or.inl (by omega))⟩
    clear r0 f0 f1 rc
    go_wp2_with fail
    refine bodyPost_ret (ret_rtt rfl rfl HR.out.1 rfl) rfl ?_
    exact ⟨rfl, HR.out.2⟩
  · rw [hR] at R
    go_enter Try.func30, Try.ntmps30
    go_wp2_with fail
    refine (R _).mono ?_
    rintro e w1 ⟨rfl, f1⟩
    replace r0 := r0.keep f1 (fun h => h)
    replace rc := rc.keep f1 (fun h => h)
    obtain ⟨c0, c1, z0, z1⟩ := pair_cells r0
    obtain ⟨k0, k1, k2, k3, k4, k5, k6, k7⟩ := cbox_cells rc
    have HR : Hid (Row (pput w1 (w.heap.size + 1) (.int .i64 0) (.int .i64 0)) (w.heap.size + 1) #[.int .i64 0, .int .i64 0] 32 ∧ Fr none' w (pput w1 (w.heap.size + 1) (.int .i64 0) (.int .i64 0))) := ⟨pair_set r0 _ _, pair_fr _ _ (f0.trans f1) (Or.inl (by omega))⟩
    clear r0 f0 f1 rc
    go_wp2_with fail
    refine bodyPost_ret (ret_rtt rfl rfl HR.out.1 rfl) rfl ?_
    exact ⟨rfl, HR.out.2⟩

set_option maxRecDepth 100000 in
set_option maxHeartbeats 1000000 in
theorem rres_depth (w : World) (P : Value) (o r b x g n : Int) (d : Bool) (X : Int) (dp : Int) (hR : rightC (K.mk 2 o r b x g n d) = true) (h : dp < 1 ∨ (¬ dp < 1 ∧ 16 < dp)) : Calls Try.prog 30 #[P, .agg #[.int .i64 2, .int .i64 o, .int .i64 r, .int .i64 b, .int .i64 x, .int .i64 g, .int .i64 n, .bool d], .int .u32 X, .int .i64 dp] w fun e w' => e = .returned (.tuple #[.agg #[.int .i64 0, .int .i64 0], .int .i64 0, .int .i64 123]) ∧ Fr none' w w' := by
  have f0 := ((Fr.refl none' w).alloc (.cells (cbox 2 o r b x g n d) 34)).alloc (.cells #[.int .i64 0, .int .i64 0] 32)
  have r0 := row_alloc1 w (.cells (cbox 2 o r b x g n d) 34) #[.int .i64 0, .int .i64 0] 32
  have rc := (row_alloc w (cbox 2 o r b x g n d) 34).alloc (.cells #[.int .i64 0, .int .i64 0] 32)
  have R := fun w => rright_any 2 o r b x g n d w
  rw [hR] at R
  unfold cbox at f0 r0 rc
  have hh : (decide (dp < 1) = true) ∨ (decide (dp < 1) = false ∧ decide (16 < dp) = true) := by
    rcases h with h | ⟨h1, h2⟩
    · exact Or.inl (decide_eq_true h)
    · exact Or.inr ⟨decide_eq_false h1, decide_eq_true h2⟩
  clear h
  go_enter Try.func30, Try.ntmps30
  go_wp2_with fail
  refine (R _).mono ?_
  rintro e w1 ⟨rfl, f1⟩
  replace r0 := r0.keep f1 (fun h => h)
  replace rc := rc.keep f1 (fun h => h)
  obtain ⟨c0, c1, z0, z1⟩ := pair_cells r0
  obtain ⟨k0, k1, k2, k3, k4, k5, k6, k7⟩ := cbox_cells rc
  have HR : Hid (Row (pput w1 (w.heap.size + 1) (.int .i64 0) (.int .i64 0)) (w.heap.size + 1) #[.int .i64 0, .int .i64 0] 32 ∧ Fr none' w (pput w1 (w.heap.size + 1) (.int .i64 0) (.int .i64 0))) := ⟨pair_set r0 _ _, pair_fr _ _ (f0.trans f1) (Or.inl (by omega))⟩
  clear r0 f0 f1 rc
  rcases hh with t1 | ⟨t1, t2⟩
  · go_wp2_with fail
    refine bodyPost_ret (ret_rtt rfl rfl HR.out.1 rfl) rfl ?_
    exact ⟨rfl, HR.out.2⟩
  · go_wp2_with fail
    refine bodyPost_ret (ret_rtt rfl rfl HR.out.1 rfl) rfl ?_
    exact ⟨rfl, HR.out.2⟩

/-- Where the document's walk through the nodes stands. -/
structure RrI (w wr : World) (q : Qb) (L : List Nd) (g8 g12 x : Nat) (R : Rs) (c : K) (l f : Nat) : Prop where
  rc : rightC c = true
  ck : c.k = 2
  l1 : 1 ≤ l
  l2 : l ≤ 16
  lf : l ≤ f
  res : resF L f c x l = R
  r8 : Row wr g8 #[.int .i64 0, .int .i64 0] 32
  r12 : Row wr g12 (capV c) 34
  is : IsQ wr q L
  fr : Fr none' w wr

set_option maxRecDepth 100000 in
set_option maxHeartbeats 4000000 in
theorem rres_loop (w : World) (q : Qb) (L : List Nd) (h : IsQ w q L) (o r b x g n : Int) (d : Bool) (X : Nat) (hX : X < 4294967296) (D : Nat) (hD : 1 ≤ D ∧ D ≤ 16) (hR : rightC (K.mk 2 o r b x g n d) = true) (R : Rs) (hS : resF L 16 (K.mk 2 o r b x g n d) X D = R) : Calls Try.prog 30 #[.pointer (some ⟨q.b, 0, none⟩), .agg #[.int .i64 2, .int .i64 o, .int .i64 r, .int .i64 b, .int .i64 x, .int .i64 g, .int .i64 n, .bool d], .int .u32 (X : Int), .int .i64 (D : Int)] w fun e w' => e = .returned (.tuple #[.agg #[.int .i64 R.at'.n, .int .i64 R.at'.i], .int .i64 R.left, .int .i64 R.e]) ∧ Fr none' w w' := by
  have f0 := ((Fr.refl none' w).alloc (.cells (cbox 2 o r b x g n d) 34)).alloc (.cells #[.int .i64 0, .int .i64 0] 32)
  have r0 := row_alloc1 w (.cells (cbox 2 o r b x g n d) 34) #[.int .i64 0, .int .i64 0] 32
  have rc := (row_alloc w (cbox 2 o r b x g n d) 34).alloc (.cells #[.int .i64 0, .int .i64 0] 32)
  have RR := fun w => rright_any 2 o r b x g n d w
  rw [hR] at RR
  unfold cbox at f0 r0 rc
  have t1 : decide ((D : Int) < 1) = false := by simp; omega
  have t2 : decide (16 < (D : Int)) = false := by simp; omega
  have h0 := h.keep0 f0
  have HB : Hid (∀ k, w.heap.size ≤ k → ¬ q.s L k) := fun k hk hs => by have := h.lt k hs; omega
  have HS : Hid (resF L 16 (K.mk 2 o r b x g n d) X D = R) := hS
  clear h hS
  go_enter Try.func30, Try.ntmps30
  go_wp2_with fail
  refine (RR _).mono ?_
  rintro e w2 ⟨rfl, f1⟩
  replace r0 := r0.keep f1 (fun h => h)
  replace rc := rc.keep f1 (fun h => h)
  replace h0 := h0.keep0 f1
  replace f0 := f0.trans f1
  have hle : w.heap.size + 1 < w2.heap.size := r0.lt
  clear f1
  obtain ⟨k0, k1, k2, k3, k4, k5, k6, k7⟩ := cbox_cells rc
  go_wp2_with fail
  clear k0 k1 k2 k3 k4 k5 k6 k7
  have f2 := (Fr.refl none' w2).alloc (.cells #[.int .i64 2, .int .i64 o, .int .i64 r, .int .i64 b, .int .i64 x, .int .i64 g, .int .i64 n, .bool d] 34)
  have q12 := row_alloc w2 (capV (K.mk 2 o r b x g n d)) 34
  have HI : Hid (RrI w (w2.alloc (.cells #[.int .i64 2, .int .i64 o, .int .i64 r, .int .i64 b, .int .i64 x, .int .i64 g, .int .i64 n, .bool d] 34)) q L (w.heap.size + 1) w2.heap.size X R (K.mk 2 o r b x g n d) D 16) :=
    ⟨hR, rfl, hD.1, hD.2, hD.2, HS.out, r0.keep f2 (fun h => h), q12, h0.keep0 f2, f0.trans f2⟩
  clear HS hR RR t1 t2 r0 rc h0 f0 hD f2 q12
  generalize (w2.alloc (.cells #[.int .i64 2, .int .i64 o, .int .i64 r, .int .i64 b, .int .i64 x, .int .i64 g, .int .i64 n, .bool d] 34)) = v0 at *
  generalize w2.heap.size = G at *
  go_loopw [13] (fun lv wr => ∃ (c : K) (l f : Nat), lv = .int .i64 (l : Int) ∧ Hid (RrI w wr q L (w.heap.size + 1) G X R c l f)) (fun lv _ => (intOf lv).toNat)
  case atStart => exact ⟨_, D, _, rfl, HI.out⟩
  case round =>
    obtain ⟨c, l, f, rfl, hI⟩ := hrel
    clear HI
    obtain ⟨i1, i2, i3, i4, i5, i6, r8, r12, is, fr⟩ := hI.out
    clear hI
    obtain ⟨f, rfl⟩ : ∃ f', f = f' + 1 := ⟨f - 1, by omega⟩
    obtain ⟨ho, hx, hn, hgg⟩ := right_cn i1 i2
    clear hgg
    have HRb : Hid (∀ E : Int, stepE L c X l = E → E ≠ 0 → R = bad E) := fun E hE h0 => by rw [← i6]; exact resF_bad hE h0
    have HRe : Hid (stepE L c X l = 0 → (stepL c l = 0 ∨ (getC L (stepA c X l)).k ≠ 2 → R = ⟨stepA c X l, stepL c l, 0⟩) ∧ (¬ (stepL c l = 0 ∨ (getC L (stepA c X l)).k ≠ 2) → resF L f (getC L (stepA c X l)) X (stepL c l) = R)) :=
      fun hE => ⟨fun hh => by rw [← i6]; exact resF_end hE hh, fun hh => by rw [← i6]; exact (resF_go hE hh).symm⟩
    obtain ⟨ck, co, cr, cb, cx, cg, cn, cd⟩ := c
    dsimp only at i2 ho hx hn
    subst i2
    obtain ⟨m, rfl⟩ := Int.eq_ofNat_of_zero_le (show 0 ≤ cx by omega)
    obtain ⟨nn, rfl⟩ := Int.eq_ofNat_of_zero_le hn.1
    have hm4 : m ≤ 4 := by omega
    have hm1 : 1 ≤ m := by omega
    have hn16 : nn ≤ 16 := by omega
    have eA : stepA (K.mk 2 co cr cb m cg nn cd) X l = ⟨co, ((bitV X (l - nn - m) m : Nat) : Int)⟩ := rfl
    have eL : stepL (K.mk 2 co cr cb m cg nn cd) l = l - nn - m := rfl
    have eE : stepE L (K.mk 2 co cr cb m cg nn cd) X l = if l < nn then 122 else if ((bitV X (l - nn) nn : Nat) : Int) ≠ cg then 122 else if l - nn < m then 123 else if radS L co ≠ (m : Int) then 120 else 0 := rfl
    have hrd := rradix_any wr q L is co
    rw [eA, eL, eE] at HRe
    rw [eE] at HRb
    have HIs : Hid (IsQ wr q L ∧ Fr none' w wr ∧ 1 ≤ l ∧ l ≤ 16 ∧ l ≤ f + 1 ∧ rightC (K.mk 2 co cr cb m cg nn cd) = true ∧ (0 ≤ co ∧ co ≤ 1023)) := ⟨is, fr, i3, i4, i5, i1, ho⟩
    obtain ⟨k0, k1, k2, k3, k4, k5, k6, k7⟩ := cbox_cells r12
    obtain ⟨s0, s1, q0, q1⟩ := pair_cells r8
    have HB8 : Hid (Row (pput wr (w.heap.size + 1) (.int .i64 0) (.int .i64 0)) (w.heap.size + 1) #[.int .i64 0, .int .i64 0] 32 ∧ Fr none' w (pput wr (w.heap.size + 1) (.int .i64 0) (.int .i64 0))) := ⟨pair_set r8 _ _, pair_fr _ _ fr (Or.inl (by omega))⟩
    have H8 : Hid (Row wr (w.heap.size + 1) #[.int .i64 0, .int .i64 0] 32) := r8
    have H12 : Hid (Row wr G (cbox 2 co cr cb m cg nn cd) 34) := r12
    clear i1 i3 i5 i6 ho hx hn eA eL eE is fr r8 r12
    by_cases p1 : l < nn
    · have u1 : decide ((l : Int) < (nn : Int)) = true := by simp; omega
      have u1' : decide (l < nn) = true := by simp; omega
      have HRs : Hid (R = bad 122) := HRb.out 122 (by rw [if_pos p1]) (by decide)
      clear p1 HRb HRe
      go_wp2_with fail
      refine bodyPost_ret (ret_rtt rfl rfl HB8.out.1 rfl) rfl ?_
      exact ⟨by rw [HRs.out]; rfl, HB8.out.2⟩
    · have u1 : decide ((l : Int) < (nn : Int)) = false := by simp; omega
      have u1' : decide (l < nn) = false := by simp; omega
      have e1 : (l : Int) - (nn : Int) = ((l - nn : Nat) : Int) := by omega
      have hb1 := bits_any wr X (l - nn) nn hX (by omega) hn16
      obtain ⟨l', hl'⟩ : ∃ l', l' = l - nn := ⟨_, rfl⟩
      have HL' : Hid (l' = l - nn) := hl'
      have hl16 : l' ≤ 16 := by omega
      rw [if_neg p1] at HRb HRe
      rw [← hl'] at e1 hb1 HRb HRe
      clear p1 hl'
      by_cases p2 : ((bitV X l' nn : Nat) : Int) = cg
      · have u2 : (((bitV X l' nn : Nat) : Int) != cg) = false := by simpa using p2
        rw [if_neg (by simpa using p2)] at HRb HRe
        generalize ((bitV X l' nn : Nat) : Int) = V at *
        clear p2
        by_cases p3 : l' < m
        · have u3 : decide ((l' : Int) < (m : Int)) = true := by simp; omega
          have u3' : decide (l' < m) = true := by simp; omega
          have HRs : Hid (R = bad 123) := HRb.out 123 (by rw [if_pos p3]) (by decide)
          clear p3 HRb HRe
          go_wp2_with (first | (go_at_call 45; refine hb1.mono ?_; rintro e w3 ⟨rfl, rfl⟩))
          refine bodyPost_ret (ret_rtt rfl rfl HB8.out.1 rfl) rfl ?_
          exact ⟨by rw [HRs.out]; rfl, HB8.out.2⟩
        · have u3 : decide ((l' : Int) < (m : Int)) = false := by simp; omega
          have u3' : decide (l' < m) = false := by simp; omega
          rw [if_neg p3] at HRb HRe
          by_cases p4 : radS L co = (m : Int)
          · have u4 : (radS L co != (m : Int)) = false := by simpa using p4
            rw [if_neg (by simpa using p4)] at HRe
            rw [p4] at hrd
            obtain ⟨l2, hl2⟩ : ∃ l2, l2 = l' - m := ⟨_, rfl⟩
            have e2 : (l' : Int) - (m : Int) = (l2 : Int) := by omega
            have hl2' : l2 ≤ 16 := by omega
            have HL2 : Hid (l2 < l) := by have := HL'.out; show _ < _; omega
            rw [← hl2] at HRe
            have hb2 := fun w => bits_any w X l2 m hX hl2' (by omega)
            replace HRe := (show Hid _ from HRe.out rfl)
            have u5 : ((m : Int) != (m : Int)) = false := by simp
            generalize ((bitV X l2 m : Nat) : Int) = U at *
            clear p3 p4 u4 hl2 HRb
            go_wp2_with (first | (go_at_call 45; refine hb1.mono ?_; rintro e w3 ⟨rfl, rfl⟩) | (go_at_call 16; refine hrd.mono ?_; rintro e w3 ⟨rfl, rfl⟩))
            go_region_held3 (fun w' => w'.cell? ⟨G, 1, none⟩ = some (.int .i64 co) ∧ w'.cell? ⟨G, 4, none⟩ = some (.int .i64 (m : Int))) (first | with_reducible exact ⟨k1, k4⟩ | go_keep) (first | (go_at_call 45; refine (hb2 _).mono ?_; rintro e w3 ⟨rfl, rfl⟩))
            all_goals
              clear k0 k1 k2 k3 k4 k5 k6 k7 s0 s1 q0 q1 HB8 hb1 hb2 hrd
              have f5 := ((Fr.refl none' w3).alloc (.cells #[.int .i64 co, .int .i64 U] 32)).drew
              have r16 := (row_alloc w3 #[.int .i64 co, .int .i64 U] 32).drew
              have is5 := HIs.out.1.keep0 f5
              have fr5 := HIs.out.2.1.trans f5
              have r8 := H8.out.keep f5 (fun h => h)
              have r12 := H12.out.keep f5 (fun h => h)
              have hGw : G < w3.heap.size := H12.out.lt
              have hgr := right_get HIs.out.1.good ⟨co, U⟩
              have HP : Hid (l ≤ 16 ∧ l ≤ f + 1) := ⟨HIs.out.2.2.2.1, HIs.out.2.2.2.2.1⟩
              have hG := rget_any _ q L is5 ⟨co, U⟩
              clear HIs H8 H12 f5
              generalize getC L ⟨co, U⟩ = C at *
              generalize getE L ⟨co, U⟩ = GE at *
              obtain ⟨Ck, Co, Cr, Cb, Cx, Cg, Cn, Cd⟩ := C
              generalize (w3.alloc (.cells #[.int .i64 co, .int .i64 U] 32)).drew = v5 at *
              generalize w3.heap.size = G16 at *
              replace hG : Calls Try.prog 22 #[.pointer (some ⟨q.b, 0, none⟩), .agg #[.int .i64 co, .int .i64 U]] v5 fun e w' => e = .returned (.tuple #[.agg #[.int .i64 Ck, .int .i64 Co, .int .i64 Cr, .int .i64 Cb, .int .i64 Cx, .int .i64 Cg, .int .i64 Cn, .bool Cd], .int .i64 GE]) ∧ Fr none' v5 w' := hG
              obtain ⟨y0, y1, y2, y3⟩ := pair_cells r16
              go_wp2_with fail
              refine hG.mono ?_
              rintro e w6 ⟨rfl, f6⟩
              clear y0 y1 y2 y3 hG
              have f7 := f6.alloc (.cells #[.int .i64 Ck, .int .i64 Co, .int .i64 Cr, .int .i64 Cb, .int .i64 Cx, .int .i64 Cg, .int .i64 Cn, .bool Cd] 34)
              have r17 := row_alloc w6 (cbox Ck Co Cr Cb Cx Cg Cn Cd) 34
              have hG6 : G < w6.heap.size := (r12.keep f6 (fun h => h)).lt
              replace r16 := r16.keep f7 (fun h => h)
              replace r8 := r8.keep f7 (fun h => h)
              replace r12 := r12.keep f7 (fun h => h)
              replace is5 := is5.keep0 f7
              replace fr5 := fr5.trans f7
              clear f6 f7
              unfold cbox at r17
              obtain ⟨y0, y1, y2, y3⟩ := pair_cells r16
              obtain ⟨s0, s1, q0, q1⟩ := pair_cells r8
              obtain ⟨t0, t1, t2, t3, t4, t5, t6, t7⟩ := cbox_cells r17
              obtain ⟨k0, k1, k2, k3, k4, k5, k6, k7⟩ := cbox_cells r12
              obtain ⟨z0, z1, z2, z3, z4, z5, z6, z7⟩ := cbox_frozen r12
              have HEnd : Hid (Row (pput (w6.alloc (.cells #[.int .i64 Ck, .int .i64 Co, .int .i64 Cr, .int .i64 Cb, .int .i64 Cx, .int .i64 Cg, .int .i64 Cn, .bool Cd] 34)) (w.heap.size + 1) (.int .i64 co) (.int .i64 U)) (w.heap.size + 1) #[.int .i64 co, .int .i64 U] 32 ∧ Fr none' w (pput (w6.alloc (.cells #[.int .i64 Ck, .int .i64 Co, .int .i64 Cr, .int .i64 Cb, .int .i64 Cx, .int .i64 Cg, .int .i64 Cn, .bool Cd] 34)) (w.heap.size + 1) (.int .i64 co) (.int .i64 U))) := ⟨pair_set r8 _ _, pair_fr _ _ fr5 (Or.inl (by omega))⟩
              by_cases hz : l2 = 0
              · have HRs : Hid (R = ⟨⟨co, U⟩, l2, 0⟩) := HRe.out.1 (Or.inl hz)
                have w1 : ((l2 : Int) == 0) = true := by simpa using hz
                clear hz HRe is5 fr5 r8 r12 r16 r17
                go_wp2_with fail
                refine bodyPost_ret (ret_rtt rfl rfl HEnd.out.1 rfl) rfl ?_
                exact ⟨by rw [HRs.out]; rfl, HEnd.out.2⟩
              · have w1 : ((l2 : Int) == 0) = false := by simpa using hz
                by_cases hk2 : Ck = 2
                · have w2 : (Ck != 2) = false := by simpa using hk2
                  have HN : Hid (RrI w (cput (w6.alloc (.cells #[.int .i64 Ck, .int .i64 Co, .int .i64 Cr, .int .i64 Cb, .int .i64 Cx, .int .i64 Cg, .int .i64 Cn, .bool Cd] 34)) G Ck Co Cr Cb Cx Cg Cn Cd) q L (w.heap.size + 1) G X R (K.mk Ck Co Cr Cb Cx Cg Cn Cd) l2 f) :=
                    ⟨hgr, hk2, by omega, by have := HP.out; omega, by have := HP.out; have := HL2.out; omega, HRe.out.2 (by rintro (h | h); exact hz h; exact h hk2), cput_other r8 (by omega) Ck Co Cr Cb Cx Cg Cn Cd, cbox_set r12, is5.keep (cbox_fr (S := at' G) (p := G) Ck Co Cr Cb Cx Cg Cn Cd (Fr.refl _ (w6.alloc (.cells #[.int .i64 Ck, .int .i64 Co, .int .i64 Cr, .int .i64 Cb, .int .i64 Cx, .int .i64 Cg, .int .i64 Cn, .bool Cd] 34))) (Or.inr rfl)) (fun k hk e => HB.out G (by omega) (e ▸ hk)), cbox_fr Ck Co Cr Cb Cx Cg Cn Cd fr5 (Or.inl (by omega))⟩
                  have HLt : Hid (l2 < l) := HL2.out
                  clear hz hk2 HRe is5 fr5 r8 r12 r16 r17 HEnd hgr HP hG6 hGw y0 y1 y2 y3 s0 s1 q0 q1
                  go_wp2_with fail
                  go_roundw
                  case rel => exact ⟨_, l2, f, rfl, HN.out⟩
                  case measure => have := HLt.out; simp [intOf]; omega
                · have w2 : (Ck != 2) = true := by simpa using hk2
                  have HRs : Hid (R = ⟨⟨co, U⟩, l2, 0⟩) := HRe.out.1 (Or.inr hk2)
                  clear hz hk2 HRe is5 fr5 r8 r12 r16 r17
                  go_wp2_with fail
                  refine bodyPost_ret (ret_rtt rfl rfl HEnd.out.1 rfl) rfl ?_
                  exact ⟨by rw [HRs.out]; rfl, HEnd.out.2⟩
          · have u4 : (radS L co != (m : Int)) = true := by simpa using p4
            have HRs : Hid (R = bad 120) := HRb.out 120 (by rw [if_pos p4]) (by decide)
            generalize radS L co = RD at *
            clear p3 p4 HRb HRe
            go_wp2_with (first | (go_at_call 45; refine hb1.mono ?_; rintro e w3 ⟨rfl, rfl⟩) | (go_at_call 16; refine hrd.mono ?_; rintro e w3 ⟨rfl, rfl⟩))
            refine bodyPost_ret (ret_rtt rfl rfl HB8.out.1 rfl) rfl ?_
            exact ⟨by rw [HRs.out]; rfl, HB8.out.2⟩
      · have u2 : (((bitV X l' nn : Nat) : Int) != cg) = true := by simpa using p2
        have HRs : Hid (R = bad 122) := HRb.out 122 (by rw [if_pos p2]) (by decide)
        generalize ((bitV X l' nn : Nat) : Int) = V at *
        clear p2 HRb HRe
        go_wp2_with (first | (go_at_call 45; refine hb1.mono ?_; rintro e w3 ⟨rfl, rfl⟩))
        refine bodyPost_ret (ret_rtt rfl rfl HB8.out.1 rfl) rfl ?_
        exact ⟨by rw [HRs.out]; rfl, HB8.out.2⟩

end Go.Proofs.Ytibdkadojoeopaa
