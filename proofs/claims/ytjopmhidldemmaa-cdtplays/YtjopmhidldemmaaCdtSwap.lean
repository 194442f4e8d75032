/-
  The contract of package cdt's Swap over the translation. No statement is proved here.
-/
import Derived.Test.YtjopmhidldemmaaCdtSwP
namespace Go.Proofs.Ytjopmhidldemmaa
open Go.RowKit Go.Maps Go.WideMaps

set_option maxRecDepth 100000 in
set_option maxHeartbeats 2000000 in
theorem swap_same (w : World) (t : Nat) (T : Tr) (h : IsT w t T) (wf : Wf T.F) (hlen : T.Y.length ≤ 1000) (a : Rf) (ha : a.Ok) (x : Pl) (hx : x ∈ T.Y) (hxa : x.e.a = a) :
    Calls Try.prog 16 #[pv t, rfV a, rfV a] w fun e w' => e = .returned (.int .i64 0) ∧ ∃ T', T'.F = swpF a a T.F ∧ ChgT w t T w' T' := by
  have f1 := ((Fr.refl none' w).alloc (.cells #[.int .i64 a.n, .int .i64 a.i] 33)).alloc (.cells #[.int .i64 a.n, .int .i64 a.i] 33)
  have ra := (row_alloc w #[.int .i64 a.n, .int .i64 a.i] 33).alloc (.cells #[.int .i64 a.n, .int .i64 a.i] 33)
  have rb := row_alloc1 w (.cells #[.int .i64 a.n, .int .i64 a.i] 33) #[.int .i64 a.n, .int .i64 a.i] 33
  have h1 := h.keep0 f1
  have hnn : (T.Y.map (·.e.a)).Nodup := by rw [← names_F]; exact wf.nd
  have hasa : hasF T.F a = true := has_iff.2 ⟨x.e, mem_F hx, hxa⟩
  have HH : Hid (IsT w t T) := ⟨h⟩
  clear h
  go_enter Try.func16, Try.ntmps16
  go_wp2_with fail
  refine (has_any _ t T h1 a ha).mono ?_
  rintro e w1 ⟨rfl, f2⟩
  rw [hasa]
  replace h1 := h1.keep0 f2
  replace ra := ra.keep f2 (fun h => h)
  replace rb := rb.keep f2 (fun h => h)
  replace f1 := f1.trans f2
  clear f2
  have b0 := rb.cell 0
  have b1 := rb.cell 1
  go_wp2_with fail
  refine (has_any _ t T h1 a ha).mono ?_
  rintro e w2 ⟨rfl, f2⟩
  rw [hasa]
  replace h1 := h1.keep0 f2
  replace ra := ra.keep f2 (fun h => h)
  replace rb := rb.keep f2 (fun h => h)
  replace f1 := f1.trans f2
  clear f2 b0 b1
  have b0 := rb.cell 0
  have b1 := rb.cell 1
  have a0 := ra.cell 0
  have a1 := ra.cell 1
  have c1 := h1.c1
  have ma : mapF T.Y a = some x.b := (mapF_iff hnn a x.b).2 ⟨x, hx, hxa, rfl⟩
  have mb : mapF T.Y a = some x.b := (mapF_iff hnn a x.b).2 ⟨x, hx, hxa, rfl⟩
  have la : ∀ n, _ := fun n => (h1.keep0 (fr_drewN _ n)).map.look0_some ha ma
  have H1 : Hid _ := ⟨h1⟩
  have RA : Hid _ := ⟨ra⟩
  have RB : Hid _ := ⟨rb⟩
  clear h1 ra rb
  go_wp2_with fail
  go_quiet (fail)
  have h3 := H1.out.keep0 (fr_drewN _ nq)
  have ra := RA.out.keep (fr_drewN _ nq) (fun h => h)
  have rb := RB.out.keep (fr_drewN _ nq) (fun h => h)
  have f3 := f1.trans (fr_drewN _ nq)
  clear H1 RA RB la  c1 a0 a1 b0 b1 f1
  generalize w2.drewN nq = v at *
  have hch := h3.ch
  have ndX := h3.nd
  have hxX : x ∈ T.X := by simp [Tr.X, hx]
  obtain ⟨px, qx, rx⟩ := hch.row x hxX
  obtain ⟨x0, x1, _, _, _⟩ := pl5 rx
  have z0 := rx.frozen 0
  have z1 := rx.frozen 1
  have xt := HH.out.nt x hxX
  have xm := HH.out.mx x hxX
  have xl := HH.out.ch.lt x hxX
  obtain ⟨U, hU⟩ : ∃ U, U = (v.setCell ⟨x.b, 0, none⟩ (.int .i64 a.n)).setCell ⟨x.b, 1, none⟩ (.int .i64 a.i) := ⟨_, rfl⟩
  have fU : Fr (at' x.b) v U := by rw [hU]; exact fr_set _ x.b 1 _ (fr_set v x.b 0 _ (Fr.refl _ _))
  obtain ⟨V, hV⟩ : ∃ V, V = ((U.setCell ⟨x.b, 0, none⟩ (.int .i64 a.n)).setCell ⟨x.b, 1, none⟩ (.int .i64 a.i)).drew := ⟨_, rfl⟩
  have fV : Fr (at' x.b) U V := by rw [hV]; exact (fr_set _ x.b 1 _ (fr_set U x.b 0 _ (Fr.refl _ _))).drew
  have tV := (h3.row.keep fU (fun e => xt (e : t = x.b).symm)).keep fV (fun e => xt (e : t = x.b).symm)
  have mV := (h3.map.keep fU (fun e => xm (e : T.m = x.b).symm)).keep fV (fun e => xm (e : T.m = x.b).symm)
  have aV := (ra.keep fU (fun e => by have e' : w.heap.size = x.b := e; omega)).keep fV (fun e => by have e' : w.heap.size = x.b := e; omega)
  have bV := (rb.keep fU (fun e => by have e' : w.heap.size + 1 = x.b := e; omega)).keep fV (fun e => by have e' : w.heap.size + 1 = x.b := e; omega)
  have cV : Ch V none (⟨T.tb, top0⟩ :: T.Y) none := by
    obtain ⟨A, C, hY⟩ := List.append_of_mem hxX
    have hch' : Ch v none (A ++ x :: C) none := by rw [← hY]; exact hch
    have ndX' : ((A ++ x :: C).map (·.b)).Nodup := by rw [← hY]; exact ndX
    have k1 := ch_repl hch' fU ndX' x.e (fun p' q' hr => by
      rw [hU]
      have := (hr.setCell 0 (.int .i64 a.n)).setCell 1 (.int .i64 a.i)
      rw [← hxa] at this ⊢
      simpa [plC] using this)
    have k2 := ch_repl k1 fV ndX' x.e (fun p' q' hr => by
      rw [hV]
      have := ((hr.setCell 0 (.int .i64 a.n)).setCell 1 (.int .i64 a.i)).drew
      rw [← hxa] at this ⊢
      simpa [plC] using this)
    have : Ch V none (A ++ x :: C) none := k2
    rw [← hY] at this
    exact this
  have mD := mV.keep (Fr.refl none' _).drew (fun h => h)
  obtain ⟨sa, va, Sa, Ea⟩ := entry_run mD ha ma
  obtain ⟨sb, vb, Sb, Eb⟩ := entry_run mD ha mb
  obtain ⟨w3, S3, U3, K3⟩ := store_run ha Sa (pv x.b)
  obtain ⟨w3', U3', M3, F3⟩ := mD.store (by omega) ha x.b
  have e3 : w3' = w3 := by rw [U3'] at U3; cases U3; rfl
  subst e3
  have Sb3 := K3 _ _ Sb
  obtain ⟨w4, S4, U4, _⟩ := store_run ha Sb3 (pv x.b)
  obtain ⟨w4', U4', M4, F4⟩ := M3.store (by rw [ma]; simp; omega) ha x.b
  have e4 : w4' = w4 := by rw [U4'] at U4; cases U4; rfl
  subst e4
  have mb3 : (fun z => if z = a then some x.b else mapF T.Y z) a = some x.b := by
    show (if a = a then some x.b else mapF T.Y a) = some x.b
    split
    · rfl
    · exact mb
  obtain ⟨sc, vc, Sc, Ec⟩ := entry_run M3 ha mb3
  obtain ⟨w5, S5, U5, _⟩ := store_run ha Sc (pv x.b)
  have e5 : w5 = w4' := by rw [U4'] at U5; cases U5; rfl
  subst e5
  have HD : Hid (∃ T', T'.F = swpF a a T.F ∧ ChgT w t T w5 T') := by
    refine ⟨⟨T.m, T.tb, T.Y⟩, ?_, ?_⟩
    · show T.Y.map (·.e) = _
      unfold swpF Tr.F
      rw [List.map_map]
      apply List.map_congr_left
      intro z _
      simp only [Function.comp, nm2]
      split
      · rename_i e
        rw [← e]
      · rfl
    · refine ren_done HH.out rfl ?_ tV cV ?_ ((((Fr.refl _ V).drew).trans F3).trans F4)
      · exact ((f3.mono (fun _ _ h => h.elim)).trans (fU.mono (fun k _ e => Or.inr (Or.inr ⟨x, hxX, e⟩)))).trans (fV.mono (fun k _ e => Or.inr (Or.inr ⟨x, hxX, e⟩)))
      · have hl : (T.Y).length = T.Y.length := by simp
        rw [hl]
        have q1 : (mapF T.Y a).isSome = true := by rw [ma]; rfl
        have q2 : (if a = a then some x.b else mapF T.Y a).isSome = true := by
          have : (if a = a then some x.b else mapF T.Y a) = some x.b := mb3
          rw [this]; rfl
        rw [if_pos q1, if_pos q2] at M4
        refine M4.congr (fun c => ?_)
        by_cases e : c = a
        · rw [if_pos e, e, ma]
        · rw [if_neg e, if_neg e]
  have b0 := rb.cell 0
  have b1 := rb.cell 1
  have a0 := ra.cell 0
  have a1 := ra.cell 1
  have t1 := tV.cell 1
  have av0 := aV.cell 0
  have av1 := aV.cell 1
  have bv0 := bV.cell 0
  have bv1 := bV.cell 1
  have T3 : Row w3' t _ _ := (tV.keep ((Fr.refl none' V).drew) (fun h => h)).keep F3 (fun e => HH.out.tm e)
  have A3 : Row w3' w.heap.size _ _ := (aV.keep ((Fr.refl none' V).drew) (fun h => h)).keep F3 (fun e => by have e' : w.heap.size = T.m := e; have := HH.out.map.lt; omega)
  have B3 : Row w3' (w.heap.size + 1) _ _ := (bV.keep ((Fr.refl none' V).drew) (fun h => h)).keep F3 (fun e => by have e' : w.heap.size + 1 = T.m := e; have := HH.out.map.lt; omega)
  have t31 := T3.cell 1
  have a30 := A3.cell 0
  have a31 := A3.cell 1
  have b30 := B3.cell 0
  have b31 := B3.cell 1
  clear Sa Sb Sc Sb3 K3 U3' U3 U4 U4' U5 M3 M4 F3 F4 T3 A3 B3 tV mV aV bV cV mD fU fV hch ndX rx h3 ra rb f3 mb3 ma mb HH hasa hnn  hxX
  go_wp2_with fail
  rw [hU] at hV
  clear hU
  go_region
  all_goals rw [← hV]
  all_goals clear hV x0 x1 z0 z1  a0 a1 b0 b1
  all_goals go_wp2_with fail
  all_goals go_region
  all_goals go_wp2
  all_goals go_ret
  all_goals exact ⟨rfl, HD.out⟩

set_option maxRecDepth 100000 in
set_option maxHeartbeats 2000000 in
theorem swap_two (w : World) (t : Nat) (T : Tr) (h : IsT w t T) (wf : Wf T.F) (hlen : T.Y.length ≤ 1000) (a b : Rf) (ha : a.Ok) (hb : b.Ok) (hab : a ≠ b) (x y : Pl) (hx : x ∈ T.Y) (hy : y ∈ T.Y) (hxa : x.e.a = a) (hyb : y.e.a = b) :
    Calls Try.prog 16 #[pv t, rfV a, rfV b] w fun e w' => e = .returned (.int .i64 0) ∧ ∃ T', T'.F = swpF a b T.F ∧ ChgT w t T w' T' := by
  have f1 := ((Fr.refl none' w).alloc (.cells #[.int .i64 a.n, .int .i64 a.i] 33)).alloc (.cells #[.int .i64 b.n, .int .i64 b.i] 33)
  have ra := (row_alloc w #[.int .i64 a.n, .int .i64 a.i] 33).alloc (.cells #[.int .i64 b.n, .int .i64 b.i] 33)
  have rb := row_alloc1 w (.cells #[.int .i64 a.n, .int .i64 a.i] 33) #[.int .i64 b.n, .int .i64 b.i] 33
  have h1 := h.keep0 f1
  have hnn : (T.Y.map (·.e.a)).Nodup := by rw [← names_F]; exact wf.nd
  have hasa : hasF T.F a = true := has_iff.2 ⟨x.e, mem_F hx, hxa⟩
  have hasb : hasF T.F b = true := has_iff.2 ⟨y.e, mem_F hy, hyb⟩
  have HH : Hid (IsT w t T) := ⟨h⟩
  clear h
  go_enter Try.func16, Try.ntmps16
  go_wp2_with fail
  refine (has_any _ t T h1 a ha).mono ?_
  rintro e w1 ⟨rfl, f2⟩
  rw [hasa]
  replace h1 := h1.keep0 f2
  replace ra := ra.keep f2 (fun h => h)
  replace rb := rb.keep f2 (fun h => h)
  replace f1 := f1.trans f2
  clear f2
  have b0 := rb.cell 0
  have b1 := rb.cell 1
  go_wp2_with fail
  refine (has_any _ t T h1 b hb).mono ?_
  rintro e w2 ⟨rfl, f2⟩
  rw [hasb]
  replace h1 := h1.keep0 f2
  replace ra := ra.keep f2 (fun h => h)
  replace rb := rb.keep f2 (fun h => h)
  replace f1 := f1.trans f2
  clear f2 b0 b1
  have b0 := rb.cell 0
  have b1 := rb.cell 1
  have a0 := ra.cell 0
  have a1 := ra.cell 1
  have c1 := h1.c1
  have ma : mapF T.Y a = some x.b := (mapF_iff hnn a x.b).2 ⟨x, hx, hxa, rfl⟩
  have mb : mapF T.Y b = some y.b := (mapF_iff hnn b y.b).2 ⟨y, hy, hyb, rfl⟩
  have la : ∀ n, _ := fun n => (h1.keep0 (fr_drewN _ n)).map.look0_some ha ma
  have lb : ∀ n, _ := fun n => (h1.keep0 (fr_drewN _ n)).map.look0_some hb mb
  have H1 : Hid _ := ⟨h1⟩
  have RA : Hid _ := ⟨ra⟩
  have RB : Hid _ := ⟨rb⟩
  clear h1 ra rb
  go_wp2_with fail
  go_quiet (fail)
  have h3 := H1.out.keep0 (fr_drewN _ nq)
  have ra := RA.out.keep (fr_drewN _ nq) (fun h => h)
  have rb := RB.out.keep (fr_drewN _ nq) (fun h => h)
  have f3 := f1.trans (fr_drewN _ nq)
  clear H1 RA RB la lb c1 a0 a1 b0 b1 f1
  generalize w2.drewN nq = v at *
  have hch := h3.ch
  have ndX := h3.nd
  have hxX : x ∈ T.X := by simp [Tr.X, hx]
  have hyX : y ∈ T.X := by simp [Tr.X, hy]
  obtain ⟨px, qx, rx⟩ := hch.row x hxX
  obtain ⟨x0, x1, _, _, _⟩ := pl5 rx
  have z0 := rx.frozen 0
  have z1 := rx.frozen 1
  obtain ⟨py, qy, ry⟩ := hch.row y hyX
  obtain ⟨y0, y1, _, _, _⟩ := pl5 ry
  have u0 := ry.frozen 0
  have u1 := ry.frozen 1
  have ndY : (T.Y.map (·.b)).Nodup := (List.nodup_cons.1 ndX).2
  have hxy : x.b ≠ y.b := fun e => hab (by rw [← hxa, ← hyb, block_name ndY hx hy e])
  have xt := HH.out.nt x hxX
  have xm := HH.out.mx x hxX
  have xl := HH.out.ch.lt x hxX
  have yt := HH.out.nt y hyX
  have ym := HH.out.mx y hyX
  have yl := HH.out.ch.lt y hyX
  obtain ⟨U, hU⟩ : ∃ U, U = (v.setCell ⟨x.b, 0, none⟩ (.int .i64 b.n)).setCell ⟨x.b, 1, none⟩ (.int .i64 b.i) := ⟨_, rfl⟩
  have fU : Fr (at' x.b) v U := by rw [hU]; exact fr_set _ x.b 1 _ (fr_set v x.b 0 _ (Fr.refl _ _))
  obtain ⟨V, hV⟩ : ∃ V, V = ((U.setCell ⟨y.b, 0, none⟩ (.int .i64 a.n)).setCell ⟨y.b, 1, none⟩ (.int .i64 a.i)).drew := ⟨_, rfl⟩
  have fV : Fr (at' y.b) U V := by rw [hV]; exact (fr_set _ y.b 1 _ (fr_set U y.b 0 _ (Fr.refl _ _))).drew
  have tV := (h3.row.keep fU (fun e => xt (e : t = x.b).symm)).keep fV (fun e => yt (e : t = y.b).symm)
  have mV := (h3.map.keep fU (fun e => xm (e : T.m = x.b).symm)).keep fV (fun e => ym (e : T.m = y.b).symm)
  have aV := (ra.keep fU (fun e => by have e' : w.heap.size = x.b := e; omega)).keep fV (fun e => by have e' : w.heap.size = y.b := e; omega)
  have bV := (rb.keep fU (fun e => by have e' : w.heap.size + 1 = x.b := e; omega)).keep fV (fun e => by have e' : w.heap.size + 1 = y.b := e; omega)
  have cV : Ch V none (⟨T.tb, top0⟩ :: T.Y.map (swP a b)) none := ch_two hch ndX hnn hx hy hxa hyb hab fU fV (fun p' q' hr => by
      rw [hU]
      have := (hr.setCell 0 (.int .i64 b.n)).setCell 1 (.int .i64 b.i)
      simpa [plC] using this) (fun p' q' hr => by
      rw [hV]
      have := ((hr.setCell 0 (.int .i64 a.n)).setCell 1 (.int .i64 a.i)).drew
      simpa [plC] using this)
  have mD := mV.keep (Fr.refl none' _).drew (fun h => h)
  obtain ⟨sa, va, Sa, Ea⟩ := entry_run mD ha ma
  obtain ⟨sb, vb, Sb, Eb⟩ := entry_run mD hb mb
  obtain ⟨w3, S3, U3, K3⟩ := store_run ha Sa (pv y.b)
  obtain ⟨w3', U3', M3, F3⟩ := mD.store (by omega) ha y.b
  have e3 : w3' = w3 := by rw [U3'] at U3; cases U3; rfl
  subst e3
  have Sb3 := K3 _ _ Sb
  obtain ⟨w4, S4, U4, _⟩ := store_run hb Sb3 (pv x.b)
  obtain ⟨w4', U4', M4, F4⟩ := M3.store (by rw [ma]; simp; omega) hb x.b
  have e4 : w4' = w4 := by rw [U4'] at U4; cases U4; rfl
  subst e4
  have mb3 : (fun z => if z = a then some y.b else mapF T.Y z) b = some y.b := by
    show (if b = a then some y.b else mapF T.Y b) = some y.b
    split
    · rfl
    · exact mb
  obtain ⟨sc, vc, Sc, Ec⟩ := entry_run M3 hb mb3
  obtain ⟨w5, S5, U5, _⟩ := store_run hb Sc (pv x.b)
  have e5 : w5 = w4' := by rw [U4'] at U5; cases U5; rfl
  subst e5
  have HD : Hid (∃ T', T'.F = swpF a b T.F ∧ ChgT w t T w5 T') := by
    refine ⟨⟨T.m, T.tb, (T.Y.map (swP a b))⟩, ?_, ?_⟩
    · show (T.Y.map (swP a b)).map (·.e) = _
      unfold swpF Tr.F
      rw [List.map_map, List.map_map]
      rfl
    · refine ren_done HH.out (by rw [List.map_map]; rfl) ?_ tV cV ?_ ((((Fr.refl _ V).drew).trans F3).trans F4)
      · exact ((f3.mono (fun _ _ h => h.elim)).trans (fU.mono (fun k _ e => Or.inr (Or.inr ⟨x, hxX, e⟩)))).trans (fV.mono (fun k _ e => Or.inr (Or.inr ⟨y, hyX, e⟩)))
      · have hl : ((T.Y.map (swP a b))).length = T.Y.length := by simp
        rw [hl]
        have q1 : (mapF T.Y a).isSome = true := by rw [ma]; rfl
        have q2 : (if b = a then some y.b else mapF T.Y b).isSome = true := by
          have : (if b = a then some y.b else mapF T.Y b) = some y.b := mb3
          rw [this]; rfl
        rw [if_pos q1, if_pos q2] at M4
        exact M4.congr (sw_map hnn hx hy hxa hyb)
  have b0 := rb.cell 0
  have b1 := rb.cell 1
  have a0 := ra.cell 0
  have a1 := ra.cell 1
  have t1 := tV.cell 1
  have av0 := aV.cell 0
  have av1 := aV.cell 1
  have bv0 := bV.cell 0
  have bv1 := bV.cell 1
  have T3 : Row w3' t _ _ := (tV.keep ((Fr.refl none' V).drew) (fun h => h)).keep F3 (fun e => HH.out.tm e)
  have A3 : Row w3' w.heap.size _ _ := (aV.keep ((Fr.refl none' V).drew) (fun h => h)).keep F3 (fun e => by have e' : w.heap.size = T.m := e; have := HH.out.map.lt; omega)
  have B3 : Row w3' (w.heap.size + 1) _ _ := (bV.keep ((Fr.refl none' V).drew) (fun h => h)).keep F3 (fun e => by have e' : w.heap.size + 1 = T.m := e; have := HH.out.map.lt; omega)
  have t31 := T3.cell 1
  have a30 := A3.cell 0
  have a31 := A3.cell 1
  have b30 := B3.cell 0
  have b31 := B3.cell 1
  clear Sa Sb Sc Sb3 K3 U3' U3 U4 U4' U5 M3 M4 F3 F4 T3 A3 B3 tV mV aV bV cV mD fU fV hch ndX rx h3 ra rb f3 mb3 ma mb HH hasa hnn ry ndY hasb hyX hxX
  go_wp2_with fail
  rw [hU] at hV
  clear hU
  go_region
  all_goals rw [← hV]
  all_goals clear hV x0 x1 z0 z1 y0 y1 u0 u1 a0 a1 b0 b1
  all_goals go_wp2_with fail
  all_goals go_region
  all_goals go_wp2
  all_goals go_ret
  all_goals exact ⟨rfl, HD.out⟩

end Go.Proofs.Ytjopmhidldemmaa
