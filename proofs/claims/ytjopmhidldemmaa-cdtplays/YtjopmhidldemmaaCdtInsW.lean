/-
  The walk of package cdt's insert over the translation. No statement is proved here.
-/
import Derived.Test.YtjopmhidldemmaaCdtIns
namespace Go.Proofs.Ytjopmhidldemmaa
open Go.RowKit Go.Maps Go.WideMaps

set_option maxRecDepth 100000 in
set_option maxHeartbeats 2000000 in
theorem ins_n (w : World) (t : Nat) (T : Tr) (h : IsT w t T) (A : List Pl) (x : Pl) (hX : T.X = A ++ x :: []) (hd1 : -1 ≤ x.e.d) (hd2 : x.e.d ≤ 2000) (a : Rf) (ha : a.Ok) (hn : hasF T.F a = false) (hlen : T.Y.length ≤ 1000) (hnd : (T.F.map (·.a)).Nodup) :
    Calls Try.prog 35 #[pv t, pv x.b, rfV a] w fun e w' => (∃ v, e = .returned v) ∧ ∃ T' y, T'.X = A ++ x :: y :: [] ∧ y.e = ⟨a, x.e.d + 1⟩ ∧ ChgT w t T w' T' := by
  have f1 := (Fr.refl none' w).alloc (.cells #[.int .i64 a.n, .int .i64 a.i] 33)
  have ra := row_alloc w #[.int .i64 a.n, .int .i64 a.i] 33
  have h1 := h.keep0 f1
  have hw := wrap_succ hd1 hd2
  have rx := h1.ch
  rw [hX] at rx
  obtain ⟨_, _, c2, _, c4⟩ := pl5 rx.at'.2.1
  simp only [hd] at c4
  have f2 : Fr none' w (((w.alloc (.cells #[.int .i64 a.n, .int .i64 a.i] 33)).alloc (.cells #[.int .i64 a.n, .int .i64 a.i, .int .i64 (x.e.d + 1), .pointer (some ⟨x.b, 0, none⟩), .pointer (none)] 47)).drew) := (f1.alloc _).drew
  have fa : Fr none' (w.alloc (.cells #[.int .i64 a.n, .int .i64 a.i] 33)) (((w.alloc (.cells #[.int .i64 a.n, .int .i64 a.i] 33)).alloc (.cells #[.int .i64 a.n, .int .i64 a.i, .int .i64 (x.e.d + 1), .pointer (some ⟨x.b, 0, none⟩), .pointer (none)] 47)).drew) := ((Fr.refl none' _).alloc _).drew
  have ra2 := ra.keep fa (fun h => h)
  have ry : Row (((w.alloc (.cells #[.int .i64 a.n, .int .i64 a.i] 33)).alloc (.cells #[.int .i64 a.n, .int .i64 a.i, .int .i64 (x.e.d + 1), .pointer (some ⟨x.b, 0, none⟩), .pointer (none)] 47)).drew) (w.heap.size + 1) #[.int .i64 a.n, .int .i64 a.i, .int .i64 (x.e.d + 1), .pointer (some ⟨x.b, 0, none⟩), .pointer (none)] 47 := row_alloc1 w _ _ _
  have h2 : IsT (((w.alloc (.cells #[.int .i64 a.n, .int .i64 a.i] 33)).alloc (.cells #[.int .i64 a.n, .int .i64 a.i, .int .i64 (x.e.d + 1), .pointer (some ⟨x.b, 0, none⟩), .pointer (none)] 47)).drew) t T := h.keep0 f2
  have lw : w.heap.size < (((w.alloc (.cells #[.int .i64 a.n, .int .i64 a.i] 33)).alloc (.cells #[.int .i64 a.n, .int .i64 a.i, .int .i64 (x.e.d + 1), .pointer (some ⟨x.b, 0, none⟩), .pointer (none)] 47)).drew).heap.size := ra2.lt
  clear rx h1 f1 fa ra
  go_enter Try.func35, Try.ntmps35
  go_wp2_with fail
  go_region
  all_goals clear c2 c4
  all_goals generalize (((w.alloc (.cells #[.int .i64 a.n, .int .i64 a.i] 33)).alloc (.cells #[.int .i64 a.n, .int .i64 a.i, .int .i64 (x.e.d + 1), .pointer (some ⟨x.b, 0, none⟩), .pointer (none)] 47)).drew) = v at *
  all_goals (
    have hch := h2.ch
    rw [hX] at hch
    have hndx : ((A ++ x :: []).map (·.b)).Nodup := by have := h2.nd; rwa [hX] at this
    have ny : ∀ z ∈ A ++ x :: [], z.b ≠ w.heap.size + 1 := fun z hz => by
      rw [← hX] at hz
      have := h.ch.lt z hz
      omega
    have rx := hch.at'.2.1
    obtain ⟨_, _, _, _, x4⟩ := pl5 rx
    have nx4 := rx.frozen 4
    have y4 := ry.cell 4
    have nxb : x.b ≠ w.heap.size + 1 := ny x (by simp)
    have hI := ins_nil (y := ⟨w.heap.size + 1, ⟨a, x.e.d + 1⟩⟩) hch ry hndx ny
    have f4 := fr_set v x.b 4 (pv (w.heap.size + 1)) (Fr.refl _ _)
    have fV : Fr (T.s t) v (v.setCell ⟨x.b, 4, none⟩ (pv (w.heap.size + 1))) := f4.mono (fun k _ e => Or.inr (Or.inr ⟨x, by rw [hX]; simp, e⟩))
    have mV := h2.map.keep f4 (fun e => h2.mx x (by rw [hX]; simp) (e : T.m = x.b).symm)
    have tV := h2.row.keep f4 (fun e => h2.nt x (by rw [hX]; simp) (e : t = x.b).symm)
    have aV := ra2.keep f4 (fun e => by have e' : w.heap.size = x.b := e; have := h.ch.lt x (by rw [hX]; simp); omega)
    obtain ⟨w', hrun, hM, hFm⟩ := (mV.keep (Fr.refl none' _).drew (fun h => h)).store (Nat.le_trans hlen (by omega)) ha (w.heap.size + 1)
    have t1 := tV.cell 1
    have a0 := aV.cell 0
    have a1 := aV.cell 1
    rw [mapF_none hn] at hM
    have Hdone : Hid (∃ T' y, T'.X = A ++ x :: y :: [] ∧ y.e = ⟨a, x.e.d + 1⟩ ∧ ChgT w t T w' T') :=
      ⟨ins_done (y := ⟨w.heap.size + 1, ⟨a, x.e.d + 1⟩⟩) h hX (Nat.le_succ _) hn hnd ((f2.mono (fun _ _ h => h.elim)).trans (fV.mono (fun _ _ h => h))) tV hI hM (((Fr.refl _ _).drew).trans hFm)⟩
    simp only [hd] at x4
    clear h2 h hch hndx ny rx ry hI fV mV tV aV hM hFm ra2 f2 lw f4 
    go_wp2_with fail
    go_region)
  all_goals refine post_void rfl rfl ?_
  all_goals exact fun v => ⟨⟨_, rfl⟩, Hdone.out⟩

set_option maxRecDepth 100000 in
set_option maxHeartbeats 2000000 in
theorem ins_c (w : World) (t : Nat) (T : Tr) (h : IsT w t T) (A : List Pl) (x : Pl) (c : Pl) (C : List Pl) (hX : T.X = A ++ x :: c :: C) (hd1 : -1 ≤ x.e.d) (hd2 : x.e.d ≤ 2000) (a : Rf) (ha : a.Ok) (hn : hasF T.F a = false) (hlen : T.Y.length ≤ 1000) (hnd : (T.F.map (·.a)).Nodup) :
    Calls Try.prog 35 #[pv t, pv x.b, rfV a] w fun e w' => (∃ v, e = .returned v) ∧ ∃ T' y, T'.X = A ++ x :: y :: c :: C ∧ y.e = ⟨a, x.e.d + 1⟩ ∧ ChgT w t T w' T' := by
  have f1 := (Fr.refl none' w).alloc (.cells #[.int .i64 a.n, .int .i64 a.i] 33)
  have ra := row_alloc w #[.int .i64 a.n, .int .i64 a.i] 33
  have h1 := h.keep0 f1
  have hw := wrap_succ hd1 hd2
  have rx := h1.ch
  rw [hX] at rx
  obtain ⟨_, _, c2, _, c4⟩ := pl5 rx.at'.2.1
  simp only [hd] at c4
  have f2 : Fr none' w (((w.alloc (.cells #[.int .i64 a.n, .int .i64 a.i] 33)).alloc (.cells #[.int .i64 a.n, .int .i64 a.i, .int .i64 (x.e.d + 1), .pointer (some ⟨x.b, 0, none⟩), .pointer (some ⟨c.b, 0, none⟩)] 47)).drew) := (f1.alloc _).drew
  have fa : Fr none' (w.alloc (.cells #[.int .i64 a.n, .int .i64 a.i] 33)) (((w.alloc (.cells #[.int .i64 a.n, .int .i64 a.i] 33)).alloc (.cells #[.int .i64 a.n, .int .i64 a.i, .int .i64 (x.e.d + 1), .pointer (some ⟨x.b, 0, none⟩), .pointer (some ⟨c.b, 0, none⟩)] 47)).drew) := ((Fr.refl none' _).alloc _).drew
  have ra2 := ra.keep fa (fun h => h)
  have ry : Row (((w.alloc (.cells #[.int .i64 a.n, .int .i64 a.i] 33)).alloc (.cells #[.int .i64 a.n, .int .i64 a.i, .int .i64 (x.e.d + 1), .pointer (some ⟨x.b, 0, none⟩), .pointer (some ⟨c.b, 0, none⟩)] 47)).drew) (w.heap.size + 1) #[.int .i64 a.n, .int .i64 a.i, .int .i64 (x.e.d + 1), .pointer (some ⟨x.b, 0, none⟩), .pointer (some ⟨c.b, 0, none⟩)] 47 := row_alloc1 w _ _ _
  have h2 : IsT (((w.alloc (.cells #[.int .i64 a.n, .int .i64 a.i] 33)).alloc (.cells #[.int .i64 a.n, .int .i64 a.i, .int .i64 (x.e.d + 1), .pointer (some ⟨x.b, 0, none⟩), .pointer (some ⟨c.b, 0, none⟩)] 47)).drew) t T := h.keep0 f2
  have lw : w.heap.size < (((w.alloc (.cells #[.int .i64 a.n, .int .i64 a.i] 33)).alloc (.cells #[.int .i64 a.n, .int .i64 a.i, .int .i64 (x.e.d + 1), .pointer (some ⟨x.b, 0, none⟩), .pointer (some ⟨c.b, 0, none⟩)] 47)).drew).heap.size := ra2.lt
  clear rx h1 f1 fa ra
  go_enter Try.func35, Try.ntmps35
  go_wp2_with fail
  go_region
  all_goals clear c2 c4
  all_goals generalize (((w.alloc (.cells #[.int .i64 a.n, .int .i64 a.i] 33)).alloc (.cells #[.int .i64 a.n, .int .i64 a.i, .int .i64 (x.e.d + 1), .pointer (some ⟨x.b, 0, none⟩), .pointer (some ⟨c.b, 0, none⟩)] 47)).drew) = v at *
  all_goals (
    have hch := h2.ch
    rw [hX] at hch
    have hndx : ((A ++ x :: c :: C).map (·.b)).Nodup := by have := h2.nd; rwa [hX] at this
    have ny : ∀ z ∈ A ++ x :: c :: C, z.b ≠ w.heap.size + 1 := fun z hz => by
      rw [← hX] at hz
      have := h.ch.lt z hz
      omega
    have rx := hch.at'.2.1
    obtain ⟨_, _, _, _, x4⟩ := pl5 rx
    have nx4 := rx.frozen 4
    have y4 := ry.cell 4
    have nxb : x.b ≠ w.heap.size + 1 := ny x (by simp)
    have rc := hch.at'.2.2.1
    obtain ⟨_, _, _, k3, _⟩ := pl5 rc
    have nk3 := rc.frozen 3
    have ncb : c.b ≠ w.heap.size + 1 := ny c (by simp)
    have ncx : c.b ≠ x.b := (nd_parts hndx).2.1 c (by simp)
    have hI := ins_cons (y := ⟨w.heap.size + 1, ⟨a, x.e.d + 1⟩⟩) hch ry hndx ny
    have f3 := fr_set v c.b 3 (pv (w.heap.size + 1)) (Fr.refl _ _)
    have f4 := fr_set (v.setCell ⟨c.b, 3, none⟩ (pv (w.heap.size + 1))) x.b 4 (pv (w.heap.size + 1)) (Fr.refl _ _)
    have fV : Fr (T.s t) v ((v.setCell ⟨c.b, 3, none⟩ (pv (w.heap.size + 1))).setCell ⟨x.b, 4, none⟩ (pv (w.heap.size + 1))) := (f3.mono (fun k _ e => Or.inr (Or.inr ⟨c, by rw [hX]; simp, e⟩))).trans (f4.mono (fun k _ e => Or.inr (Or.inr ⟨x, by rw [hX]; simp, e⟩)))
    have mV := (h2.map.keep f3 (fun e => h2.mx c (by rw [hX]; simp) (e : T.m = c.b).symm)).keep f4 (fun e => h2.mx x (by rw [hX]; simp) (e : T.m = x.b).symm)
    have tV := (h2.row.keep f3 (fun e => h2.nt c (by rw [hX]; simp) (e : t = c.b).symm)).keep f4 (fun e => h2.nt x (by rw [hX]; simp) (e : t = x.b).symm)
    have aV := (ra2.keep f3 (fun e => by have e' : w.heap.size = c.b := e; have := h.ch.lt c (by rw [hX]; simp); omega)).keep f4 (fun e => by have e' : w.heap.size = x.b := e; have := h.ch.lt x (by rw [hX]; simp); omega)
    obtain ⟨w', hrun, hM, hFm⟩ := (mV.keep (Fr.refl none' _).drew (fun h => h)).store (Nat.le_trans hlen (by omega)) ha (w.heap.size + 1)
    have t1 := tV.cell 1
    have a0 := aV.cell 0
    have a1 := aV.cell 1
    rw [mapF_none hn] at hM
    have Hdone : Hid (∃ T' y, T'.X = A ++ x :: y :: c :: C ∧ y.e = ⟨a, x.e.d + 1⟩ ∧ ChgT w t T w' T') :=
      ⟨ins_done (y := ⟨w.heap.size + 1, ⟨a, x.e.d + 1⟩⟩) h hX (Nat.le_succ _) hn hnd ((f2.mono (fun _ _ h => h.elim)).trans (fV.mono (fun _ _ h => h))) tV hI hM (((Fr.refl _ _).drew).trans hFm)⟩
    simp only [hd] at x4
    clear h2 h hch hndx ny rx ry hI fV mV tV aV hM hFm ra2 f2 lw f4 f3 rc
    go_wp2_with fail
    go_region)
  all_goals refine post_void rfl rfl ?_
  all_goals exact fun v => ⟨⟨_, rfl⟩, Hdone.out⟩

theorem insert_any (w : World) (t : Nat) (T : Tr) (h : IsT w t T) (A C : List Pl) (x : Pl) (hX : T.X = A ++ x :: C) (hd1 : -1 ≤ x.e.d) (hd2 : x.e.d ≤ 2000) (a : Rf) (ha : a.Ok) (hn : hasF T.F a = false) (hlen : T.Y.length ≤ 1000) (hnd : (T.F.map (·.a)).Nodup) :
    Calls Try.prog 35 #[pv t, pv x.b, rfV a] w fun e w' => (∃ v, e = .returned v) ∧ ∃ T' y, T'.X = A ++ x :: y :: C ∧ y.e = ⟨a, x.e.d + 1⟩ ∧ ChgT w t T w' T' := by
  cases C with
  | nil => exact ins_n w t T h A x hX hd1 hd2 a ha hn hlen hnd
  | cons c C => exact ins_c w t T h A x c C hX hd1 hd2 a ha hn hlen hnd

end Go.Proofs.Ytjopmhidldemmaa
