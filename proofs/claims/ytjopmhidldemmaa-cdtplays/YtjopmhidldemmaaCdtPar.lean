/-
  The contract of package cdt's Parent over the translation. No statement is proved here.
-/
import Derived.Test.YtjopmhidldemmaaCdtList
import Derived.Test.YtjopmhidldemmaaCdtPtr
namespace Go.Proofs.Ytjopmhidldemmaa
open Go.RowKit Go.Maps Go.WideMaps

theorem ex_lastp (x : Pl) (A : List Pl) : ∃ A1 z, x :: A = A1 ++ [z] := by
  induction A generalizing x with
  | nil => exact ⟨[], x, rfl⟩
  | cons y A ih =>
    obtain ⟨A1, z, e⟩ := ih y
    exact ⟨x :: A1, z, by rw [e]; rfl⟩

theorem near_spec {d : Int} {e : En} : ∀ {L1 L2 : List En}, (∀ e' ∈ L1, d ≤ e'.d) → e.d < d → nearF d (L1 ++ e :: L2) = e
  | [], _, _, h => by simp [nearF]; omega
  | x :: L1, L2, h1, h => by
    rw [List.cons_append, nearF, if_pos (h1 x (by simp))]
    exact near_spec (fun e' he => h1 e' (by simp [he])) h
theorem near_all {d : Int} : ∀ {L : List En}, (∀ e' ∈ L, d ≤ e'.d) → nearF d L = top0
  | [], _ => rfl
  | x :: L, h => by
    rw [nearF, if_pos (h x (by simp))]
    exact near_all (fun e' he => h e' (by simp [he]))

/-- The nearest one, by its place among those ahead (the top first). -/
theorem near_at {A : List Pl} {tb : Nat} {d : Int} {j : Nat} {y : Pl} (hy : (⟨tb, top0⟩ :: A : List Pl)[j]? = some y) (hl : y.e.d < d) (hg : ∀ i z, j < i → (⟨tb, top0⟩ :: A : List Pl)[i]? = some z → d ≤ z.e.d) :
    nearF d (A.map (·.e)).reverse = y.e := by
  cases j with
  | zero =>
    simp at hy
    subst hy
    refine near_all (fun e' he => ?_)
    rw [List.mem_reverse] at he
    obtain ⟨z, hz, rfl⟩ := List.mem_map.1 he
    obtain ⟨i, hi⟩ := List.getElem?_of_mem hz
    exact hg (i + 1) z (by omega) (by simpa using hi)
  | succ i =>
    have hy' : A[i]? = some y := by simpa using hy
    obtain ⟨hi, e⟩ := List.getElem?_eq_some_iff.1 hy'
    have hs : A = A.take i ++ y :: A.drop (i + 1) := by
      conv => lhs; rw [← List.take_append_drop i A, List.drop_eq_getElem_cons hi, e]
    rw [hs]
    have e2 : ((A.take i ++ y :: A.drop (i + 1)).map (·.e)).reverse = ((A.drop (i + 1)).map (·.e)).reverse ++ y.e :: ((A.take i).map (·.e)).reverse := by simp
    rw [e2]
    refine near_spec (fun e' he => ?_) hl
    rw [List.mem_reverse] at he
    obtain ⟨z, hz, rfl⟩ := List.mem_map.1 he
    obtain ⟨k, hk⟩ := List.getElem?_of_mem hz
    rw [List.getElem?_drop] at hk
    exact hg (i + 1 + k + 1) z (by omega) (by simpa using hk)

/-- The row of the j-th of those ahead. -/
theorem Ch.back {w : World} {P C : List Pl} {x y : Pl} (h : Ch w none (P ++ x :: C) none) {j : Nat} (hy : P[j]? = some y) : ∃ q, Row w y.b (plC y.e (match j with | 0 => none | i + 1 => ad (bAt P i)) q) 47 := by
  obtain ⟨hj, e⟩ := List.getElem?_eq_some_iff.1 hy
  have hs : P ++ x :: C = P.take j ++ y :: (P.drop (j + 1) ++ x :: C) := by
    conv => lhs; rw [← List.take_append_drop j P, List.drop_eq_getElem_cons hj, e]
    simp
  rw [hs] at h
  refine ⟨hd (P.drop (j + 1) ++ x :: C) none, ?_⟩
  have := h.at'.2.1
  cases j with
  | zero => exact this
  | succ i =>
    have hi : i < P.length := by omega
    have e3 : P.take (i + 1) = P.take i ++ [P[i]] := List.take_succ_eq_append_getElem hi
    rw [e3, lst_snoc] at this
    show Row w y.b (plC y.e (ad (bAt P i)) _) _
    rw [bAt_eq (List.getElem?_eq_getElem hi)]
    exact this

set_option maxRecDepth 100000 in
set_option maxHeartbeats 1000000 in
theorem par_not (w : World) (t : Nat) (T : Tr) (h : IsT w t T) (a : Rf) (ha : a.Ok) (hh : hasF T.F a = false) :
    Calls Try.prog 28 #[pv t, rfV a] w fun e w' => e = .returned (.tuple #[rfV rf0, .bool false]) ∧ Fr none' w w' := by
  have f1 := ((Fr.refl none' w).alloc (.cells #[.int .i64 a.n, .int .i64 a.i] 33)).alloc (.cells #[.int .i64 0, .int .i64 0] 33)
  have h1 := h.keep0 f1
  have c1 := h1.c1
  have l0 : ∀ n, _ := fun n => (h1.keep0 (fr_drewN _ n)).map.look_none ha (mapF_none hh)
  clear h1
  go_enter Try.func28, Try.ntmps28
  go_wp2_with fail
  go_quiet (fail)
  go_wp2
  have HQ := (row_alloc1 w (.cells #[.int .i64 a.n, .int .i64 a.i] 33) #[.int .i64 0, .int .i64 0] 33).keep (fr_drewN _ nq) (fun h => h)
  have hd := (HQ.setCell 0 (.int .i64 0)).setCell 1 (.int .i64 0)
  have hd0 : _ = some (Value.int .i64 0) := hd.cell 0
  have hd1 : _ = some (Value.int .i64 0) := hd.cell 1
  refine bodyPost_ret (v := .tuple #[.agg #[.int .i64 0, .int .i64 0], .bool false]) ?_ rfl ⟨rfl, ((f1.trans (fr_drewN _ _)).setCell (p := ⟨w.heap.size + 1, 0, none⟩) (Or.inl (Nat.le_succ _)) _).setCell (p := ⟨w.heap.size + 1, 1, none⟩) (Or.inl (Nat.le_succ _)) _⟩
  simp [results, Try.f28, go_sem, hd0, hd1]

open Classical in
noncomputable def lenB (n : Nat) (bl : Nat → Nat) (v : Value) : Nat := if h : ∃ k, k < n ∧ v = pv (bl k) then Classical.choose h else 0
theorem lenB_eq {n : Nat} {bl : Nat → Nat} (hi : ∀ j k, j < n → k < n → bl j = bl k → j = k) {k : Nat} (hk : k < n) : lenB n bl (pv (bl k)) = k := by
  have hex : ∃ j, j < n ∧ pv (bl k) = pv (bl j) := ⟨k, hk, rfl⟩
  unfold lenB
  rw [dif_pos hex]
  obtain ⟨h1, h2⟩ := Classical.choose_spec hex
  exact hi _ k h1 hk (by simpa using h2.symm)

theorem bAt_inj {C : List Pl} (nd : (C.map (·.b)).Nodup) : ∀ j k, j < C.length → k < C.length → bAt C j = bAt C k → j = k := by
  intro j k h1 h2 e
  rw [bAt_eq (List.getElem?_eq_getElem h1), bAt_eq (List.getElem?_eq_getElem h2)] at e
  exact (List.getElem?_inj (by simpa using h1) nd).1 (by rw [List.getElem?_map, List.getElem?_map, List.getElem?_eq_getElem h1, List.getElem?_eq_getElem h2]; simp [e])

set_option maxRecDepth 100000 in
set_option maxHeartbeats 1000000 in
theorem par_in (w : World) (t : Nat) (T : Tr) (h : IsT w t T) (wf : Wf T.F) (A C : List Pl) (x : Pl) (hY : T.Y = A ++ x :: C) (hA : hasF (A.map (·.e)) x.e.a = false) (ha : x.e.a.Ok) :
    Calls Try.prog 28 #[pv t, rfV x.e.a] w fun e w' => e = .returned (.tuple #[rfV (parF x.e.a [] T.F).1, .bool (parF x.e.a [] T.F).2]) ∧ Fr none' w w' := by
  have f1 := ((Fr.refl none' w).alloc (.cells #[.int .i64 x.e.a.n, .int .i64 x.e.a.i] 33)).alloc (.cells #[.int .i64 0, .int .i64 0] 33)
  have h1 := h.keep0 f1
  have c1 := h1.c1
  have l0 : ∀ n, _ := fun n => (h1.keep0 (fr_drewN _ n)).map.look_some ha (by rw [hY]; exact mapF_at hA)
  have H1 : Hid _ := ⟨h1⟩
  clear h1
  go_enter Try.func28, Try.ntmps28
  go_wp2_with fail
  go_quiet (fail)
  have h2 := H1.out.keep0 (fr_drewN _ nq)
  have r2 := (row_alloc1 w (.cells #[.int .i64 x.e.a.n, .int .i64 x.e.a.i] 33) #[.int .i64 0, .int .i64 0] 33).keep (fr_drewN _ nq) (fun h => h)
  have f2 := f1.trans (fr_drewN _ nq)
  clear H1 l0 c1 f1
  generalize (((w.alloc (.cells #[.int .i64 x.e.a.n, .int .i64 x.e.a.i] 33)).alloc (.cells #[.int .i64 0, .int .i64 0] 33)).drewN nq) = V at *
  have hch := h2.ch
  rw [X_of hY] at hch
  obtain ⟨P, hP⟩ : ∃ P, P = (⟨T.tb, top0⟩ :: A : List Pl) := ⟨_, rfl⟩
  rw [← hP] at hch
  have hPl : 0 < P.length := by rw [hP]; simp
  have hxd : 0 ≤ x.e.d ∧ x.e.d < T.F.length := wf.deep (by rw [F_at hY]; simp)
  obtain ⟨_, _, x2, x3, _⟩ := pl5 hch.at'.2.1
  have hl3 : lst none P = ad (bAt P (P.length - 1)) := by
    obtain ⟨Q, z, hQ⟩ := ex_lastp _ A
    rw [hP, hQ, lst_snoc]
    simp [bAt]
  rw [hl3] at x3
  have ndP : (P.map (·.b)).Nodup := by
    have := h2.nd
    rw [X_of hY, ← hP, List.map_append] at this
    exact (List.nodup_append.1 this).1
  have HC : Hid (Ch V none (P ++ x :: C) none) := ⟨hch⟩
  have H2 : Hid _ := ⟨h2⟩
  have t0 := h2.c0
  have HP : Hid (P = ⟨T.tb, top0⟩ :: A) := ⟨hP⟩
  have R2 : Hid _ := ⟨r2⟩
  have F2 : Hid _ := ⟨f2⟩
  have HLT : Hid (t < w.heap.size ∧ ∀ z ∈ T.X, z.b < w.heap.size) := ⟨h.row.lt, h.ch.lt⟩
  clear hch h2 hP hl3 h r2 f2
  go_wp2_with fail
  go_loopw [8] (fun v wr => ∃ j n, j < P.length ∧ v = pv (bAt P j) ∧ wr = V.drewN n ∧ Hid (∀ i z, j < i → P[i]? = some z → x.e.d ≤ z.e.d)) (fun v _ => lenB P.length (bAt P) v)
  case atStart => exact ⟨P.length - 1, 0, by omega, rfl, rfl, ⟨fun i z hi hz => by obtain ⟨hlt, _⟩ := List.getElem?_eq_some_iff.1 hz; omega⟩⟩
  case round =>
    obtain ⟨j, n, hj, rfl, rfl, hg⟩ := hrel
    have hy : P[j]? = some P[j] := List.getElem?_eq_getElem hj
    rw [bAt_eq hy]
    have eb := bAt_eq hy
    obtain ⟨q, ry⟩ := HC.out.back hy
    obtain ⟨y, ey⟩ : ∃ y, y = P[j] := ⟨_, rfl⟩
    rw [← ey] at hy eb ry ⊢
    have HY : Hid (P[j]? = some y) := ⟨hy⟩
    have HB : Hid (bAt P j = y.b) := ⟨eb⟩
    clear ey hy eb
    obtain ⟨y0, y1, y2, y3, _⟩ := pl5 ry
    clear ry
    by_cases hd : x.e.d ≤ y.e.d
    · have hj0 : 0 < j := by
        rcases Nat.eq_zero_or_pos j with e | e
        · subst e
          have := HY.out
          rw [HP.out] at this
          simp at this
          subst this
          simp [top0] at hd
          omega
        · exact e
      obtain ⟨i, rfl⟩ : ∃ i, j = i + 1 := ⟨j - 1, by omega⟩
      have y3' : V.cell? ⟨y.b, 3, none⟩ = some (pv (bAt P i)) := y3
      clear y3
      go_wp2_with fail
      go_quiet (fail)
      go_wp2_with fail
      go_roundw
      case rel => exact ⟨i, _, by omega, rfl, rfl, ⟨fun k z hk hz => by
        rcases Nat.lt_or_ge (i + 1) k with h | h
        · exact hg.out k z h hz
        · obtain rfl : k = i + 1 := by omega
          rw [HY.out] at hz
          cases hz
          exact hd⟩⟩
      case measure =>
        show lenB P.length (bAt P) (pv (bAt P i)) < lenB P.length (bAt P) (pv y.b)
        rw [← HB.out, lenB_eq (bAt_inj ndP) (by omega : i < P.length), lenB_eq (bAt_inj ndP) hj]
        omega
    · have hn : nearF x.e.d (A.map (·.e)).reverse = y.e := near_at (tb := T.tb) (j := j) (by rw [← HP.out]; exact HY.out) (by omega) (fun i z hi hz => hg.out i z hi (by rw [HP.out]; exact hz))
      have hpar : parF x.e.a [] T.F = (y.e.a, decide (0 ≤ y.e.d)) := by
        rw [F_at hY, par_at hA, List.append_nil, hn]
      have q0 := R2.out.cell 0
      have q1 := R2.out.cell 1
      have z0 := R2.out.frozen 0
      have z1 := R2.out.frozen 1
      have hflag : (y.b = T.tb ∧ decide (0 ≤ y.e.d) = false) ∨ (y.b ≠ T.tb ∧ decide (0 ≤ y.e.d) = true) := by
        cases j with
        | zero =>
          have := HY.out
          rw [HP.out] at this
          simp at this
          subst this
          exact Or.inl ⟨rfl, by simp [top0]⟩
        | succ i =>
          have hyA := HY.out
          rw [HP.out] at hyA
          have hm : y ∈ A := List.mem_of_getElem? (by simpa using hyA)
          refine Or.inr ⟨fun e => ?_, ?_⟩
          · have := ndP
            rw [HP.out, List.map_cons, List.nodup_cons] at this
            exact this.1 (List.mem_map.2 ⟨y, hm, e⟩)
          · exact decide_eq_true (wf.deep (by rw [F_at hY]; simp; exact Or.inl ⟨y, hm, rfl⟩)).1
      have hnq : ∀ n, (binOp .neq 45 (pv y.b) (pv T.tb)).run Try.prog (V.drewN n) = .ok (.bool (decide (0 ≤ y.e.d))) (V.drewN n) := fun n => by
        obtain ⟨_, ry'⟩ := HC.out.back HY.out
        have rt := H2.out.ch.1
        rw [neq_ptr (ry'.keep (fr_drewN _ n) (fun h => h)) (rt.keep (fr_drewN _ n) (fun h => h))]
        rcases hflag with ⟨e, e2⟩ | ⟨e, e2⟩
        · rw [e2, e]; simp
        · rw [e2]; simp [e]
      have hyX : y ∈ T.X := by
        rw [X_of hY, ← HP.out]
        exact List.mem_append_left _ (List.mem_of_getElem? HY.out)
      have hyl := HLT.out.2 y hyX
      have htl := HLT.out.2 ⟨T.tb, top0⟩ (by simp [Tr.X])
      have htt := HLT.out.1
      have hnq2 : ∀ n u v, (binOp .neq 45 (pv y.b) (pv T.tb)).run Try.prog (((V.drewN n).setCell ⟨w.heap.size + 1, 0, none⟩ u).setCell ⟨w.heap.size + 1, 1, none⟩ v) = .ok (.bool (decide (0 ≤ y.e.d))) (((V.drewN n).setCell ⟨w.heap.size + 1, 0, none⟩ u).setCell ⟨w.heap.size + 1, 1, none⟩ v) := fun n u v => by
        obtain ⟨_, ry'⟩ := HC.out.back HY.out
        have rt := H2.out.ch.1
        have n1 : w.heap.size + 1 ≠ y.b := by omega
        have n2 : w.heap.size + 1 ≠ T.tb := by
          have : T.tb < w.heap.size := htl
          omega
        rw [neq_ptr (((ry'.keep (fr_drewN _ n) (fun h => h)).setCell_other (p := ⟨w.heap.size + 1, 0, none⟩) n1 u).setCell_other (p := ⟨w.heap.size + 1, 1, none⟩) n1 v) (((rt.keep (fr_drewN _ n) (fun h => h)).setCell_other (p := ⟨w.heap.size + 1, 0, none⟩) n2 u).setCell_other (p := ⟨w.heap.size + 1, 1, none⟩) n2 v)]
        rcases hflag with ⟨e, e2⟩ | ⟨e, e2⟩
        · rw [e2, e]; simp
        · rw [e2]; simp [e]
      have nyw : y.b ≠ w.heap.size + 1 := by omega
      have ntw : t ≠ w.heap.size + 1 := by omega
      clear hn HC H2 hg HY HB y3 hyX hyl htl htt HLT
      rcases hflag with ⟨hb, hfl⟩ | ⟨hb, hfl⟩
      · rw [hfl] at hpar
        rw [hfl] at hnq hnq2
        clear hb
        go_wp2_with fail
        go_quiet (fail)
        go_wp2_with fail
        go_region
        all_goals go_wp2
        all_goals (
          have hq := ((R2.out.keep (fr_drewN _ (n + nq + 1)) (fun h => h)).setCell 0 (.int .i64 y.e.a.n)).setCell 1 (.int .i64 y.e.a.i)
          have hd0 : _ = some (Value.int .i64 y.e.a.n) := hq.cell 0
          have hd1 : _ = some (Value.int .i64 y.e.a.i) := hq.cell 1
          refine bodyPost_ret (v := .tuple #[.agg #[.int .i64 y.e.a.n, .int .i64 y.e.a.i], .bool false]) ?_ rfl ⟨by rw [hpar], ((F2.out.trans (fr_drewN _ _)).setCell (p := ⟨w.heap.size + 1, 0, none⟩) (Or.inl (Nat.le_succ _)) _).setCell (p := ⟨w.heap.size + 1, 1, none⟩) (Or.inl (Nat.le_succ _)) _⟩
          simp [results, Try.f28, go_sem, hd0, hd1])
      · rw [hfl] at hpar
        rw [hfl] at hnq hnq2
        go_wp2_with fail
        go_quiet (fail)
        go_wp2_with fail
        go_region
        all_goals go_wp2
        all_goals (
          have hq := ((R2.out.keep (fr_drewN _ (n + nq + 1)) (fun h => h)).setCell 0 (.int .i64 y.e.a.n)).setCell 1 (.int .i64 y.e.a.i)
          have hd0 : _ = some (Value.int .i64 y.e.a.n) := hq.cell 0
          have hd1 : _ = some (Value.int .i64 y.e.a.i) := hq.cell 1
          refine bodyPost_ret (v := .tuple #[.agg #[.int .i64 y.e.a.n, .int .i64 y.e.a.i], .bool true]) ?_ rfl ⟨by rw [hpar], ((F2.out.trans (fr_drewN _ _)).setCell (p := ⟨w.heap.size + 1, 0, none⟩) (Or.inl (Nat.le_succ _)) _).setCell (p := ⟨w.heap.size + 1, 1, none⟩) (Or.inl (Nat.le_succ _)) _⟩
          simp [results, Try.f28, go_sem, hd0, hd1])

theorem parent_any (w : World) (t : Nat) (T : Tr) (h : IsT w t T) (wf : Wf T.F) (a : Rf) (ha : a.Ok) :
    Calls Try.prog 28 #[pv t, rfV a] w fun e w' => e = .returned (.tuple #[rfV (parF a [] T.F).1, .bool (parF a [] T.F).2]) ∧ Fr none' w w' := by
  cases hh : hasF T.F a with
  | false => rw [par_none _ hh]; exact par_not w t T h a ha hh
  | true =>
    obtain ⟨A, x, C, hY, rfl, hA⟩ := place_of hh
    exact par_in w t T h wf A C x hY hA ha

end Go.Proofs.Ytjopmhidldemmaa
