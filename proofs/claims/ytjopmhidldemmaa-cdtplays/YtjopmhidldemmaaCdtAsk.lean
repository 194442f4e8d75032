/-
  All that both forests are asked of two names: they answer alike. No statement is proved here.
-/
import Derived.Test.YtjopmhidldemmaaCdtPlD
import Derived.Test.YtjopmhidldemmaaCdtLaw
namespace Go.Proofs.Ytjopmhidldemmaa
open Go.RowKit Go.Maps Go.WideMaps

section
variable {w0 w : World} {t r n : Nat} {F : List En}
theorem BoP.qhas (h : BoP w0 w t r F n) (a : Rf) : Calls Try.prog 25 #[pv r, rfV a] w fun e w' => e = .returned (.bool (hasF F a)) ∧ Fr none' w w' := by
  obtain ⟨T, q, L, ro, _, _, _, h4, h5, _⟩ := h.ex
  rw [h5.has a]
  exact rhas_any w _ r q L ro h4 a
theorem BoP.qdep (h : BoP w0 w t r F n) (hn : n ≤ 200) (a : Rf) : Calls Try.prog 27 #[pv r, rfV a] w fun e w' => e = .returned (.int .i64 (depF a F)) ∧ Fr none' w w' := by
  obtain ⟨T, q, L, ro, _, _, _, h4, h5, _⟩ := h.ex
  have hl := h.ln
  rw [← h5.depth h.wf a]
  exact rdepth_any w _ r q L ro h4 _ (h5.dp h.wf (by omega)) a
theorem BoP.qpar (h : BoP w0 w t r F n) (a : Rf) : Calls Try.prog 29 #[pv r, rfV a] w fun e w' => e = .returned (.tuple #[rfV (parF a [] F).1, .bool (parF a [] F).2]) ∧ Fr none' w w' := by
  obtain ⟨T, q, L, ro, _, _, _, h4, h5, _⟩ := h.ex
  rw [← h5.parent a]
  exact rparent_any w _ r q L ro h4 h5.good a
theorem BoP.qbel (h : BoP w0 w t r F n) (hn : n ≤ 200) (a b : Rf) : Calls Try.prog 31 #[pv r, rfV a, rfV b] w fun e w' => e = .returned (.bool (belF a b F)) ∧ Fr none' w w' := by
  obtain ⟨T, q, L, ro, _, _, _, h4, h5, _⟩ := h.ex
  have hl := h.ln
  rw [← h5.below h.wf (by omega) a b]
  exact rbelow_any w _ r q L ro h4 _ (h5.dp h.wf (by omega)) a b
theorem BoP.qdes (h : BoP w0 w t r F n) (hn : n ≤ 200) (a : Rf) : Calls Try.prog 33 #[pv r, rfV a] w fun e w' => ∃ v, e = .returned v ∧ RfS w' w.heap.size v (desF a F) ∧ Fr none' w w' := by
  obtain ⟨T, q, L, ro, _, _, _, h4, h5, _⟩ := h.ex
  have hl := h.ln
  refine rdesc_any w _ r q L ro h4 a _ ?_
  unfold rdesF
  cases hf : fdR a L with
  | none => exact des_none (h5.no hf)
  | some k =>
    obtain ⟨o, hk, hg, rfl, _⟩ := fdR_some hf
    obtain ⟨d', G, g1, g2, g3⟩ := h5.pre.des h5.nd h5.uq hk hg (h5.all hk hg)
    exact ⟨o, d', G, hk, g1, g2, by omega⟩
theorem BoP.qlist (h : BoP w0 w t r F n) (hn : n ≤ 200) : Calls Try.prog 8 #[pv r] w fun e w' => ∃ v, e = .returned v ∧ RfS w' w.heap.size v (F.map (·.a)) ∧ Fr none' w w' := by
  obtain ⟨T, q, L, ro, _, _, _, h4, h5, _⟩ := h.ex
  have hl := h.ln
  exact rlist_any w _ r q L ro F h4 h5.pre (by omega)
theorem des_len (F : List En) (a : Rf) : (desF a F).length ≤ F.length := by
  have hr : ∀ (d : Int) (G : List En), (runF d G).length ≤ G.length := fun d G => by
    have := congrArg List.length (runF_restF d G)
    rw [List.length_append] at this
    omega
  induction F with
  | nil => simp [desF]
  | cons e F ih =>
    unfold desF
    split
    · have := hr e.d F
      simp
      omega
    · simp
      omega
end

set_option maxRecDepth 100000 in
set_option maxHeartbeats 4000000 in
theorem asks_any (w0 w : World) (t r n : Nat) (F : List En) (h : BoP w0 w t r F n) (hn : n ≤ 200) (a b : Rf) (ha : a.Ok) (hb : b.Ok) :
    Calls Try.prog 10 #[pv t, pv r, .agg #[.int .i64 a.n, .int .i64 a.i], .agg #[.int .i64 b.n, .int .i64 b.i]] w fun e w' => e = .returned (.bool true) ∧ Fr none' w w' := by
  have f0 := ((Fr.refl none' w).alloc (.cells #[.int .i64 a.n, .int .i64 a.i] 33)).alloc (.cells #[.int .i64 b.n, .int .i64 b.i] 33)
  have ra := (row_alloc w #[.int .i64 a.n, .int .i64 a.i] 33).alloc (.cells #[.int .i64 b.n, .int .i64 b.i] 33)
  have rb := row_alloc1 w (.cells #[.int .i64 a.n, .int .i64 a.i] 33) #[.int .i64 b.n, .int .i64 b.i] 33
  have HB : Hid (∀ w', Fr none' w w' → BoP w0 w' t r F n) := ⟨fun w' f => h.keep0 f⟩
  have HA : Hid (∀ w', Fr none' w w' → Pr w0 w' t F) := ⟨fun w' f => (h.keep0 f).pr hn⟩
  have hl := des_len F a
  have hln := h.ln
  obtain ⟨hh, ehh⟩ : ∃ x, x = hasF F a := ⟨_, rfl⟩
  obtain ⟨dd, edd⟩ : ∃ x, x = depF a F := ⟨_, rfl⟩
  obtain ⟨⟨⟨pn, pi⟩, pb⟩, epp⟩ : ∃ x, x = parF a [] F := ⟨_, rfl⟩
  obtain ⟨bb, ebb⟩ : ∃ x, x = belF a b F := ⟨_, rfl⟩
  obtain ⟨M, eM⟩ : ∃ x, x = desF a F := ⟨_, rfl⟩
  obtain ⟨⟨⟨fn, fi⟩, fb⟩, eff⟩ : ∃ x, x = firF a F := ⟨_, rfl⟩
  rw [← eM] at hl
  have hMl : M.length ≤ 200 := by omega
  have hfir : (M = [] ∧ fn = 0 ∧ fi = 0 ∧ fb = false) ∨ ∃ M', M = ⟨fn, fi⟩ :: M' ∧ fb = true := by
    unfold firF at eff
    rw [← eM] at eff
    cases M with
    | nil =>
      simp only [Prod.mk.injEq, rf0, Rf.mk.injEq] at eff
      exact Or.inl ⟨rfl, eff.1.1, eff.1.2, eff.2⟩
    | cons z M' =>
      simp only [Prod.mk.injEq] at eff
      exact Or.inr ⟨M', by rw [eff.1], eff.2⟩
  have E : Hid (hh = hasF F a ∧ dd = depF a F ∧ ((⟨pn, pi⟩, pb) : Rf × Bool) = parF a [] F ∧ bb = belF a b F ∧ M = desF a F ∧ ((⟨fn, fi⟩, fb) : Rf × Bool) = firF a F) := ⟨ehh, edd, epp, ebb, eM, eff⟩
  have HFI : Hid _ := ⟨hfir⟩
  have HN : Hid (n ≤ 200) := ⟨hn⟩
  clear h ehh edd epp ebb eM eff hl hln hfir hn
  obtain ⟨an, ai⟩ := a
  obtain ⟨bn, bi⟩ := b
  dsimp only at *
  go_enter Try.func10, Try.ntmps10
  have hc := phas _ _ t F (HA.out _ f0) ⟨an, ai⟩ ha
  rw [← E.out.1] at hc
  replace hc : Calls Try.prog 24 #[pv t, .agg #[.int .i64 an, .int .i64 ai]] ((w.alloc (.cells #[.int .i64 an, .int .i64 ai] 33)).alloc (.cells #[.int .i64 bn, .int .i64 bi] 33)) fun e w' => e = .returned (.bool hh) ∧ Fr none' ((w.alloc (.cells #[.int .i64 an, .int .i64 ai] 33)).alloc (.cells #[.int .i64 bn, .int .i64 bi] 33)) w' := hc
  go_wp2_with fail
  refine hc.mono ?_
  rintro e w1 ⟨rfl, g⟩
  clear hc
  replace ra := ra.keep g (fun h => h)
  replace rb := rb.keep g (fun h => h)
  replace f0 := f0.trans g
  clear g
  have hc := (HB.out _ f0).qhas ⟨an, ai⟩
  rw [← E.out.1] at hc
  replace hc : Calls Try.prog 25 #[pv r, .agg #[.int .i64 an, .int .i64 ai]] w1 fun e w' => e = .returned (.bool hh) ∧ Fr none' w1 w' := hc
  obtain ⟨a0, a1⟩ := row2 ra
  go_wp2_with fail
  refine hc.mono ?_
  rintro e w2 ⟨rfl, g⟩
  clear hc a0 a1
  replace ra := ra.keep g (fun h => h)
  replace rb := rb.keep g (fun h => h)
  replace f0 := f0.trans g
  clear g
  have hc := pdep _ _ t F (HA.out _ f0) ⟨an, ai⟩ ha
  rw [← E.out.2.1] at hc
  replace hc : Calls Try.prog 26 #[pv t, .agg #[.int .i64 an, .int .i64 ai]] w2 fun e w' => e = .returned (.int .i64 dd) ∧ Fr none' w2 w' := hc
  obtain ⟨a0, a1⟩ := row2 ra
  go_wp2_with fail
  refine hc.mono ?_
  rintro e w3 ⟨rfl, g⟩
  clear hc a0 a1
  replace ra := ra.keep g (fun h => h)
  replace rb := rb.keep g (fun h => h)
  replace f0 := f0.trans g
  clear g
  have hc := (HB.out _ f0).qdep HN.out ⟨an, ai⟩
  rw [← E.out.2.1] at hc
  replace hc : Calls Try.prog 27 #[pv r, .agg #[.int .i64 an, .int .i64 ai]] w3 fun e w' => e = .returned (.int .i64 dd) ∧ Fr none' w3 w' := hc
  obtain ⟨a0, a1⟩ := row2 ra
  go_wp2_with fail
  refine hc.mono ?_
  rintro e w4 ⟨rfl, g⟩
  clear hc a0 a1
  replace ra := ra.keep g (fun h => h)
  replace rb := rb.keep g (fun h => h)
  replace f0 := f0.trans g
  clear g
  have hc := ppar _ _ t F (HA.out _ f0) ⟨an, ai⟩ ha
  rw [← E.out.2.2.1] at hc
  replace hc : Calls Try.prog 28 #[pv t, .agg #[.int .i64 an, .int .i64 ai]] w4 fun e w' => e = .returned (.tuple #[.agg #[.int .i64 pn, .int .i64 pi], .bool pb]) ∧ Fr none' w4 w' := hc
  obtain ⟨a0, a1⟩ := row2 ra
  go_wp2_with fail
  refine hc.mono ?_
  rintro e w5 ⟨rfl, g⟩
  clear hc a0 a1
  have rp := row_alloc w5 #[.int .i64 pn, .int .i64 pi] 33
  replace g := g.alloc (.cells #[.int .i64 pn, .int .i64 pi] 33)
  replace ra := ra.keep g (fun h => h)
  replace rb := rb.keep g (fun h => h)
  replace f0 := f0.trans g
  clear g
  have hc := (HB.out _ f0).qpar ⟨an, ai⟩
  rw [← E.out.2.2.1] at hc
  replace hc : Calls Try.prog 29 #[pv r, .agg #[.int .i64 an, .int .i64 ai]] (w5.alloc (.cells #[.int .i64 pn, .int .i64 pi] 33)) fun e w' => e = .returned (.tuple #[.agg #[.int .i64 pn, .int .i64 pi], .bool pb]) ∧ Fr none' (w5.alloc (.cells #[.int .i64 pn, .int .i64 pi] 33)) w' := hc
  obtain ⟨a0, a1⟩ := row2 ra
  go_wp2_with fail
  refine hc.mono ?_
  rintro e w6 ⟨rfl, g⟩
  clear hc a0 a1
  have rq := row_alloc w6 #[.int .i64 pn, .int .i64 pi] 33
  replace g := g.alloc (.cells #[.int .i64 pn, .int .i64 pi] 33)
  replace ra := ra.keep g (fun h => h)
  replace rb := rb.keep g (fun h => h)
  replace rp := rp.keep g (fun h => h)
  replace f0 := f0.trans g
  clear g
  have hc := pbel _ _ t F (HA.out _ f0) ⟨an, ai⟩ ⟨bn, bi⟩ ha
  rw [← E.out.2.2.2.1] at hc
  replace hc : Calls Try.prog 30 #[pv t, .agg #[.int .i64 an, .int .i64 ai], .agg #[.int .i64 bn, .int .i64 bi]] (w6.alloc (.cells #[.int .i64 pn, .int .i64 pi] 33)) fun e w' => e = .returned (.bool bb) ∧ Fr none' (w6.alloc (.cells #[.int .i64 pn, .int .i64 pi] 33)) w' := hc
  obtain ⟨a0, a1⟩ := row2 ra
  obtain ⟨b0, b1⟩ := row2 rb
  go_wp2_with fail
  refine hc.mono ?_
  rintro e w7 ⟨rfl, g⟩
  clear hc a0 a1 b0 b1
  replace ra := ra.keep g (fun h => h)
  replace rb := rb.keep g (fun h => h)
  replace rp := rp.keep g (fun h => h)
  replace rq := rq.keep g (fun h => h)
  replace f0 := f0.trans g
  clear g
  have hc := (HB.out _ f0).qbel HN.out ⟨an, ai⟩ ⟨bn, bi⟩
  rw [← E.out.2.2.2.1] at hc
  replace hc : Calls Try.prog 31 #[pv r, .agg #[.int .i64 an, .int .i64 ai], .agg #[.int .i64 bn, .int .i64 bi]] w7 fun e w' => e = .returned (.bool bb) ∧ Fr none' w7 w' := hc
  obtain ⟨a0, a1⟩ := row2 ra
  obtain ⟨b0, b1⟩ := row2 rb
  go_wp2_with fail
  refine hc.mono ?_
  rintro e w8 ⟨rfl, g⟩
  clear hc a0 a1 b0 b1
  replace ra := ra.keep g (fun h => h)
  replace rb := rb.keep g (fun h => h)
  replace rp := rp.keep g (fun h => h)
  replace rq := rq.keep g (fun h => h)
  replace f0 := f0.trans g
  clear g
  have hc := pdes _ _ t F (HA.out _ f0) ⟨an, ai⟩ ha
  rw [← E.out.2.2.2.2.1] at hc
  replace hc : Calls Try.prog 32 #[pv t, .agg #[.int .i64 an, .int .i64 ai]] w8 fun e w' => ∃ v, e = .returned v ∧ RfS w' w8.heap.size v M ∧ Fr none' w8 w' := hc
  obtain ⟨a0, a1⟩ := row2 ra
  go_wp2_with fail
  refine hc.mono ?_
  rintro e w9 ⟨v1, rfl, s1, g⟩
  obtain ⟨ad1, cp1, rfl⟩ := s1.slice
  clear hc a0 a1
  replace ra := ra.keep g (fun h => h)
  replace rb := rb.keep g (fun h => h)
  replace rp := rp.keep g (fun h => h)
  replace rq := rq.keep g (fun h => h)
  replace f0 := f0.trans g
  clear g
  have hc := (HB.out _ f0).qdes HN.out ⟨an, ai⟩
  rw [← E.out.2.2.2.2.1] at hc
  replace hc : Calls Try.prog 33 #[pv r, .agg #[.int .i64 an, .int .i64 ai]] w9 fun e w' => ∃ v, e = .returned v ∧ RfS w' w9.heap.size v M ∧ Fr none' w9 w' := hc
  obtain ⟨a0, a1⟩ := row2 ra
  go_wp2_with fail
  refine hc.mono ?_
  rintro e w10 ⟨v2, rfl, s2, g⟩
  obtain ⟨ad2, cp2, rfl⟩ := s2.slice
  clear hc a0 a1
  replace ra := ra.keep g (fun h => h)
  replace rb := rb.keep g (fun h => h)
  replace rp := rp.keep g (fun h => h)
  replace rq := rq.keep g (fun h => h)
  replace s1 := s1.keep0 g
  replace f0 := f0.trans g
  clear g
  have hc := pfir _ _ t F (HA.out _ f0) ⟨an, ai⟩ ha
  rw [← E.out.2.2.2.2.2] at hc
  replace hc : Calls Try.prog 34 #[pv t, .agg #[.int .i64 an, .int .i64 ai]] w10 fun e w' => e = .returned (.tuple #[.agg #[.int .i64 fn, .int .i64 fi], .bool fb]) ∧ Fr none' w10 w' := hc
  obtain ⟨a0, a1⟩ := row2 ra
  go_wp2_with fail
  refine hc.mono ?_
  rintro e w11 ⟨rfl, g⟩
  clear hc a0 a1
  have rf := row_alloc w11 #[.int .i64 fn, .int .i64 fi] 33
  replace g := g.alloc (.cells #[.int .i64 fn, .int .i64 fi] 33)
  replace ra := ra.keep g (fun h => h)
  replace rb := rb.keep g (fun h => h)
  replace rp := rp.keep g (fun h => h)
  replace rq := rq.keep g (fun h => h)
  replace s1 := s1.keep0 g
  replace s2 := s2.keep0 g
  replace f0 := f0.trans g
  clear g
  have hc := refs_any (w11.alloc (.cells #[.int .i64 fn, .int .i64 fi] 33)) _ _ _ _ M M s1 s2 (by omega)
  rw [decide_eq_true (rfl : M = M)] at hc
  go_wp2_with fail
  refine hc.mono ?_
  rintro e w12 ⟨rfl, g⟩
  clear hc
  replace ra := ra.keep g (fun h => h)
  replace rb := rb.keep g (fun h => h)
  replace rp := rp.keep g (fun h => h)
  replace rq := rq.keep g (fun h => h)
  replace rf := rf.keep g (fun h => h)
  replace s2 := s2.keep0 g
  replace f0 := f0.trans g
  clear g s1 ra rb
  obtain ⟨p0, p1⟩ := row2 rp
  obtain ⟨q0, q1⟩ := row2 rq
  obtain ⟨x0, x1⟩ := row2 rf
  have t1 : (hh != hh) = false := by simp
  have t2 : (dd != dd) = false := by simp
  have t3 : (pb != pb) = false := by simp
  have t4 : (bb != bb) = false := by simp
  have hq := fun w => neq_ref pn pi pn pi w
  rw [decide_eq_false (fun h => h rfl)] at hq
  have F0 : Hid _ := ⟨f0⟩
  rcases HFI.out with ⟨hM, rfl, rfl, rfl⟩ | ⟨M', hM, rfl⟩
  · have hM0 : M.length = 0 := by rw [hM]; rfl
    rw [hM0]
    have hq2 := fun w => eq_ref 0 0 0 0 w
    rw [decide_eq_true rfl] at hq2
    clear hM hM0 s2 f0 rp rq rf HFI E hMl
    go_wp2
    go_ret
    exact ⟨rfl, F0.out⟩
  · obtain ⟨g, rfl, y0, y1⟩ := s2.get (i := 0) (x := ⟨fn, fi⟩) (by rw [hM]; rfl)
    dsimp only at y0 y1
    have hMp : 0 < M.length := by rw [hM]; simp
    have i1 : 0 ≤ (0 : Int) ∧ (0 : Int) < (M.length : Int) := by omega
    have t5 : ((M.length : Int) == 0) = false := by rw [beq_eq_false_iff_ne]; omega
    have hq2 := fun w => eq_ref fn fi fn fi w
    rw [decide_eq_true rfl] at hq2
    clear hM s2 f0 rp rq rf HFI E
    generalize M.length = K at *
    go_wp2_with fail
    go_quiet (fail)
    go_wp2_with fail
    go_ret
    exact ⟨rfl, F0.out.trans (fr_drewN _ _)⟩

end Go.Proofs.Ytjopmhidldemmaa
