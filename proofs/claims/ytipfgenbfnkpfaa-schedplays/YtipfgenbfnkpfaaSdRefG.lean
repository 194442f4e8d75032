/-
  The document's Settle over the translation. No statement is proved here.
-/
import Derived.Test.YtipfgenbfnkpfaaSdRefF
namespace Go.Proofs.Ytipfgenbfnkpfaa
open Go.RowKit Go.Maps Go.WideMaps

def settQ (T : Sd) (Q : List Int) : List Int := match urg T (pe T) 64 with
  | none => Q
  | some x => if T.c = -1 then gOut x Q else if ((fnd T.L x).getD T0).p ≤ (curT T).p then Q else T.c :: gOut x Q
def setQ (S : Sd) (Q : List Int) : List Int := if S.c ≠ -1 ∧ (curT S).d ≠ pe S then settQ (back S gEnd) (Q ++ [S.c]) else settQ S Q
/-- Who would run first is the document's highest one. -/
structure HigOk (T : Sd) (Q : List Int) : Prop where
  no : urg T (pe T) 64 = none → hig T.L (pe T) Q = none
  yes : ∀ x, urg T (pe T) 64 = some x → ∃ t, fnd T.L x = some t ∧ hig T.L (pe T) Q = some t

theorem lcell {w : World} {q : Db} {S : Sd} {Q : List Int} (h : IsD w q S Q) {g cap i : Nat} {t : Tk} (hv : q.Lv = .slice (some ⟨g, 0, none⟩) S.L.length cap) (hi : S.L[i]? = some t) : w.cell? ⟨q.b, 3, none⟩ = some (.slice (some ⟨g, 0, none⟩) S.L.length cap) ∧ w.cell? ⟨g, i * 5, none⟩ = some (.int .i64 t.i) ∧ w.cell? ⟨g, i * 5 + 1, none⟩ = some (.int .i64 t.p) ∧ w.cell? ⟨g, i * 5 + 2, none⟩ = some (.int .i64 t.d) := by
  obtain ⟨a, cp, hv', _, hn⟩ := h.formL
  obtain ⟨g', e, _, c0, c1, c2, _⟩ := hn i t hi
  rw [hv] at hv'
  simp only [Value.slice.injEq] at hv'
  rw [← hv'.1] at e
  simp only [Option.some.injEq, Addr.mk.injEq, and_true] at e
  subst e
  have c3 := h.cells.2.2.2.1
  rw [hv] at c3
  exact ⟨c3, c0, c1, c2⟩
theorem lform {w : World} {q : Db} {S : Sd} {Q : List Int} (h : IsD w q S Q) {i : Nat} {t : Tk} (hi : S.L[i]? = some t) : ∃ g cap, q.Lv = .slice (some ⟨g, 0, none⟩) S.L.length cap := by
  obtain ⟨a, cp, hv', _, hn⟩ := h.formL
  obtain ⟨g', e, _⟩ := hn i t hi
  exact ⟨g', cp, by rw [hv', e]⟩

/-- The last step: who was taken out is the current one. -/
def LastS (b g N cap i : Nat) (x : Int) (R : World → Prop) (w : World) : Prop := w.cell? ⟨b, 3, none⟩ = some (.slice (some ⟨g, 0, none⟩) N cap) ∧ w.cell? ⟨g, i * 5, none⟩ = some (.int .i64 x) ∧ w.cell? ⟨b, 5, none⟩ = some (.int .i64 (-1)) ∧ w.frozen? ⟨b, 5, none⟩ = false ∧ Hid (R (w.setCell ⟨b, 5, none⟩ (.int .i64 x)))

theorem out0 {w : World} {q : Db} {T : Sd} {Q : List Int} (h : IsD w q T Q) (hl : Q.length ≤ 5000) (hc : T.c = -1) {g cap i : Nat} {t : Tk} (hv : q.Lv = .slice (some ⟨g, 0, none⟩) T.L.length cap) (hi : T.L[i]? = some t) {R : World → Prop} (hR : ∀ w' q', ChgD w q w' q' { T with c := t.i } (gOut t.i Q) → R w') :
    Calls Try.prog 56 #[.pointer (some ⟨q.b, 0, none⟩), .int .i64 t.i] w fun e w3 => ∃ v, e = .returned v ∧ LastS q.b g T.L.length cap i t.i R w3 := by
  refine (rout_any w q T Q h hl t.i).mono ?_
  rintro e w3 ⟨v, rfl, q1, C, hL⟩
  refine ⟨v, rfl, ?_⟩
  have k := lcell C.is (by rw [hL]; exact hv) hi
  have k5 := C.is.cells.2.2.2.2.2
  have y5 := C.is.frozen 5
  have C2 := C.is.setC t.i
  rw [C.b] at k k5 y5 C2
  rw [hc] at k5
  exact ⟨k.1, k.2.1, k5, y5, hR _ q1 (C.trans C2)⟩
theorem out1 {w : World} {q : Db} {T : Sd} {Q : List Int} (h : IsD w q T Q) (hl : Q.length ≤ 5000) {g cap i : Nat} {t : Tk} (hv : q.Lv = .slice (some ⟨g, 0, none⟩) T.L.length cap) (hi : T.L[i]? = some t) {R : World → Prop} (hR : ∀ w' q', ChgD w q w' q' { T with c := t.i } (T.c :: gOut t.i Q) → R w') :
    Calls Try.prog 56 #[.pointer (some ⟨q.b, 0, none⟩), .int .i64 t.i] w fun e w3 => ∃ v, e = .returned v ∧ Hid (Calls Try.prog 59 #[.pointer (some ⟨q.b, 0, none⟩)] w3 fun e w4 => ∃ v, e = .returned v ∧ LastS q.b g T.L.length cap i t.i R w4) := by
  refine (rout_any w q T Q h hl t.i).mono ?_
  rintro e w3 ⟨v, rfl, q1, C, hL⟩
  refine ⟨v, rfl, ?_⟩
  have F := rfront_any w3 q1 T (gOut t.i Q) C.is (Nat.le_trans (List.length_filter_le _ _) hl)
  rw [C.b] at F
  refine F.mono ?_
  rintro e w4 ⟨v2, rfl, q2, C1, hL2⟩
  refine ⟨v2, rfl, ?_⟩
  have k := lcell C1.is (i := i) (t := t) (by rw [hL2, hL]; exact hv) hi
  have k5 := C1.is.cells.2.2.2.2.2
  have y5 := C1.is.frozen 5
  have C2 := C1.is.setC t.i
  rw [C1.b, C.b] at k k5 y5 C2
  exact ⟨k.1, k.2.1, k5, y5, hR _ q2 ((C.trans C1).trans C2)⟩

set_option maxRecDepth 100000 in
set_option maxHeartbeats 4000000 in
theorem rset_a (w : World) (q : Db) (S : Sd) (Q : List Int) (h : IsD w q S Q) (gt : GoodT S) (hc : S.c = -1) (hl : Q.length ≤ 5000) (hq : ∀ x ∈ Q, ∃ t, fnd S.L x = some t) (hH : HigOk S Q) :
    Calls Try.prog 37 #[.pointer (some ⟨q.b, 0, none⟩)] w fun e w' => ∃ v, e = .returned v ∧ ∃ q', ChgD w q w' q' (setS S) (setQ S Q) := by
  have e1 : setS S = sett S := by unfold setS; rw [if_neg (fun e => e.1 hc)]
  have e2 : setQ S Q = settQ S Q := by unfold setQ; rw [if_neg (fun e => e.1 hc)]
  have D := rdom_any w q S Q h gt.tn
  have HK : Hid (∀ W, Fr none' w W → W.cell? ⟨q.b, 5, none⟩ = some (.int .i64 S.c) ∧ Calls Try.prog 55 #[.pointer (some ⟨q.b, 0, none⟩), .int .i64 S.c] W fun e w' => e = .returned (.int .i64 (-1)) ∧ w' = W) := fun W f => ⟨(h.keep0 f).cells.2.2.2.2.2, rat_no (h.keep0 f) (by rw [hc]; exact fnd_neg h.good)⟩
  cases hu : urg S (pe S) 64 with
  | none =>
    have HN : Hid (∀ W, Fr none' w W → Calls Try.prog 60 #[.pointer (some ⟨q.b, 0, none⟩)] W fun e w2 => e = .returned (.int .i64 (-1)) ∧ Hid (∀ n, ∃ q', ChgD w q (w2.drewN n) q' (setS S) (setQ S Q))) := fun W f => (rhi_no (h.keep0 f) gt.tn hl hq (hH.no hu)).mono (by
      rintro e w2 ⟨rfl, f2⟩
      refine ⟨rfl, fun n => ⟨q, ?_⟩⟩
      rw [e1, e2]
      unfold sett settQ
      rw [hu]
      exact ChgD.same h ((f.trans f2).trans (fr_drewN _ n)))
    clear h e1 e2 hq hH hu gt hc
    generalize setS S = X at *
    generalize setQ S Q = Y at *
    generalize pe S = dp at *
    generalize S.c = cc at *
    go_enter Try.func37, Try.ntmps37
    go_wp2_with fail
    refine D.mono ?_
    rintro e w1 ⟨rfl, nd, rfl⟩
    clear D
    obtain ⟨k5, A⟩ := HK.out _ (fr_drewN w nd)
    have N := HN.out _ (fr_drewN w nd)
    clear HK HN
    generalize w.drewN nd = w1 at *
    go_wp2_with (first | (go_at_call 60; refine N.mono ?_; rintro e w2 ⟨rfl, HR⟩) | (go_at_call 55; refine A.mono ?_; rintro e w2 ⟨rfl, rfl⟩))
    go_quiet (fail)
    go_wp2_with fail
    refine ret_void rfl rfl fun v => ?_
    exact ⟨v, rfl, HR.out _⟩
  | some x =>
    obtain ⟨t, ht, hh⟩ := hH.yes x hu
    obtain ⟨i, hi⟩ := fnd_ix ht
    have hti := fnd_i ht
    obtain ⟨g, cap, hv⟩ := lform h hi
    have hlt := lt_of_get hi
    have i1 : 0 ≤ (i : Int) ∧ (i : Int) < (S.L.length : Int) := by omega
    have i2 : decide ((i : Int) < 0) = false := decide_eq_false (by omega)
    have HN : Hid (∀ W, Fr none' w W → Calls Try.prog 60 #[.pointer (some ⟨q.b, 0, none⟩)] W fun e w2 => e = .returned (.int .i64 (i : Int)) ∧ w2.cell? ⟨q.b, 3, none⟩ = some (.slice (some ⟨g, 0, none⟩) S.L.length cap) ∧ w2.cell? ⟨g, i * 5, none⟩ = some (.int .i64 t.i) ∧ Hid (∀ n, Calls Try.prog 56 #[.pointer (some ⟨q.b, 0, none⟩), .int .i64 t.i] (w2.drewN n) fun e w3 => ∃ v, e = .returned v ∧ LastS q.b g S.L.length cap i t.i (fun W => ∃ q', ChgD w q W q' (setS S) (setQ S Q)) w3)) := fun W f => (rhi_at (h.keep0 f) gt.tn hl hq hh hi).mono (by
      rintro e w2 ⟨rfl, f2⟩
      have f3 := f.trans f2
      have k := lcell (h.keep0 f3) hv hi
      refine ⟨rfl, k.1, k.2.1, fun n => ?_⟩
      have f4 := f3.trans (fr_drewN w2 n)
      refine out0 (h.keep0 f4) hl hc hv hi (fun w' q' C => ⟨q', ?_⟩)
      have C' := (ChgD.same h f4).trans C
      rw [e1, e2]
      unfold sett settQ
      rw [hu]
      dsimp only
      rw [if_pos hc, if_pos hc, ← hti]
      exact C'.of rfl rfl rfl rfl rfl)
    clear h e1 e2 hq hH hu gt hc ht hh hi hti hv hlt
    generalize setS S = X at *
    generalize setQ S Q = Y at *
    generalize pe S = dp at *
    generalize S.c = cc at *
    generalize S.L.length = N at *
    generalize t.i = ti at *
    go_enter Try.func37, Try.ntmps37
    go_wp2_with fail
    refine D.mono ?_
    rintro e w1 ⟨rfl, nd, rfl⟩
    clear D
    obtain ⟨k5, A⟩ := HK.out _ (fr_drewN w nd)
    have HH := HN.out _ (fr_drewN w nd)
    clear HK HN
    generalize w.drewN nd = w1 at *
    go_wp2_with (first | (go_at_call 60; refine HH.mono ?_; rintro e w2 ⟨rfl, k3, ki, HO⟩) | (go_at_call 55; refine A.mono ?_; rintro e w2 ⟨rfl, rfl⟩))
    go_quiet (fail)
    go_wp2_with (go_at_call 56; refine (HO.out _).mono ?_; rintro e w3 ⟨v, rfl, l3, li, l5, z5, HR⟩)
    refine post_void rfl rfl fun v => ?_
    exact ⟨v, rfl, HR.out⟩

set_option maxRecDepth 100000 in
set_option maxHeartbeats 4000000 in
theorem rset_b (w : World) (q : Db) (S : Sd) (Q : List Int) (h : IsD w q S Q) (gt : GoodT S) (hc : S.c ≠ -1) (hf : fnd S.L S.c = some (curT S)) (hd : (curT S).d = pe S) (hl : Q.length ≤ 5000) (hq : ∀ x ∈ Q, ∃ t, fnd S.L x = some t) (hH : HigOk S Q) :
    Calls Try.prog 37 #[.pointer (some ⟨q.b, 0, none⟩)] w fun e w' => ∃ v, e = .returned v ∧ ∃ q', ChgD w q w' q' (setS S) (setQ S Q) := by
  have e1 : setS S = sett S := by unfold setS; rw [if_neg (fun e => e.2 hd)]
  have e2 : setQ S Q = settQ S Q := by unfold setQ; rw [if_neg (fun e => e.2 hd)]
  have D := rdom_any w q S Q h gt.tn
  obtain ⟨k, hk⟩ := fnd_ix hf
  obtain ⟨g, cap, hv⟩ := lform h hk
  have hkl := lt_of_get hk
  have j1 : 0 ≤ (k : Int) ∧ (k : Int) < (S.L.length : Int) := by omega
  have j2 : decide (0 ≤ (k : Int)) = true := decide_eq_true (by omega)
  have t1 : ((curT S).d == pe S) = true := by simpa using hd
  have HK : Hid (∀ W, Fr none' w W → W.cell? ⟨q.b, 5, none⟩ = some (.int .i64 S.c) ∧ (Calls Try.prog 55 #[.pointer (some ⟨q.b, 0, none⟩), .int .i64 S.c] W fun e w' => e = .returned (.int .i64 (k : Int)) ∧ w' = W) ∧ W.cell? ⟨q.b, 3, none⟩ = some (.slice (some ⟨g, 0, none⟩) S.L.length cap) ∧ W.cell? ⟨g, k * 5 + 2, none⟩ = some (.int .i64 (curT S).d)) := fun W f => ⟨(h.keep0 f).cells.2.2.2.2.2, rat_at (h.keep0 f) hf hk, (lcell (h.keep0 f) hv hk).1, (lcell (h.keep0 f) hv hk).2.2.2⟩
  cases hu : urg S (pe S) 64 with
  | none =>
    have HN : Hid (∀ W, Fr none' w W → Calls Try.prog 60 #[.pointer (some ⟨q.b, 0, none⟩)] W fun e w2 => e = .returned (.int .i64 (-1)) ∧ Hid (∀ n, ∃ q', ChgD w q (w2.drewN n) q' (setS S) (setQ S Q))) := fun W f => (rhi_no (h.keep0 f) gt.tn hl hq (hH.no hu)).mono (by
      rintro e w2 ⟨rfl, f2⟩
      refine ⟨rfl, fun n => ⟨q, ?_⟩⟩
      rw [e1, e2]
      unfold sett settQ
      rw [hu]
      exact ChgD.same h ((f.trans f2).trans (fr_drewN _ n)))
    clear h e1 e2 hq hH hu gt hc hf hd hk hv hkl
    generalize setS S = X at *
    generalize setQ S Q = Y at *
    generalize pe S = dp at *
    generalize (curT S).d = dc at *
    generalize S.c = cc at *
    generalize S.L.length = N at *
    go_enter Try.func37, Try.ntmps37
    go_wp2_with fail
    refine D.mono ?_
    rintro e w1 ⟨rfl, nd, rfl⟩
    clear D
    obtain ⟨k5, A, k3, kd⟩ := HK.out _ (fr_drewN w nd)
    have HH := HN.out _ (fr_drewN w nd)
    clear HK HN
    generalize w.drewN nd = w1 at *
    go_wp2_with (first | (go_at_call 60; refine HH.mono ?_; rintro e w2 ⟨rfl, HR⟩) | (go_at_call 55; refine A.mono ?_; rintro e w2 ⟨rfl, rfl⟩))
    go_quiet (fail)
    go_wp2_with fail
    refine ret_void rfl rfl fun v => ?_
    exact ⟨v, rfl, HR.out _⟩
  | some x =>
    obtain ⟨t, ht, hh⟩ := hH.yes x hu
    obtain ⟨i, hi⟩ := fnd_ix ht
    have hti := fnd_i ht
    have hlt := lt_of_get hi
    have i1 : 0 ≤ (i : Int) ∧ (i : Int) < (S.L.length : Int) := by omega
    have i2 : decide ((i : Int) < 0) = false := decide_eq_false (by omega)
    by_cases hle : t.p ≤ (curT S).p
    · have t2 : decide (t.p ≤ (curT S).p) = true := by simpa using hle
      have HN : Hid (∀ W, Fr none' w W → Calls Try.prog 60 #[.pointer (some ⟨q.b, 0, none⟩)] W fun e w2 => e = .returned (.int .i64 (i : Int)) ∧ w2.cell? ⟨q.b, 3, none⟩ = some (.slice (some ⟨g, 0, none⟩) S.L.length cap) ∧ w2.cell? ⟨g, i * 5 + 1, none⟩ = some (.int .i64 t.p) ∧ w2.cell? ⟨g, k * 5 + 1, none⟩ = some (.int .i64 (curT S).p) ∧ Hid (∀ n, ∃ q', ChgD w q (w2.drewN n) q' (setS S) (setQ S Q))) := fun W f => (rhi_at (h.keep0 f) gt.tn hl hq hh hi).mono (by
        rintro e w2 ⟨rfl, f2⟩
        have f3 := f.trans f2
        have a := lcell (h.keep0 f3) hv hi
        have b := lcell (h.keep0 f3) hv hk
        refine ⟨rfl, a.1, a.2.2.1, b.2.2.1, fun n => ⟨q, ?_⟩⟩
        rw [e1, e2]
        unfold sett settQ
        rw [hu]
        dsimp only
        rw [if_neg hc, if_neg hc, ht]
        have : (some t).getD T0 = t := rfl
        rw [this, if_pos hle, if_pos hle]
        exact ChgD.same h (f3.trans (fr_drewN _ n)))
      clear h e1 e2 hq hH hu gt hc hf hd hk hv hkl ht hh hi hti hlt hle
      generalize setS S = X at *
      generalize setQ S Q = Y at *
      generalize pe S = dp at *
      generalize (curT S).d = dc at *
      generalize (curT S).p = pc at *
      generalize S.c = cc at *
      generalize S.L.length = N at *
      generalize t.p = tp at *
      go_enter Try.func37, Try.ntmps37
      go_wp2_with fail
      refine D.mono ?_
      rintro e w1 ⟨rfl, nd, rfl⟩
      clear D
      obtain ⟨k5, A, k3, kd⟩ := HK.out _ (fr_drewN w nd)
      have HH := HN.out _ (fr_drewN w nd)
      clear HK HN
      generalize w.drewN nd = w1 at *
      go_wp2_with (first | (go_at_call 60; refine HH.mono ?_; rintro e w2 ⟨rfl, l3, li, lk, HR⟩) | (go_at_call 55; refine A.mono ?_; rintro e w2 ⟨rfl, rfl⟩))
      go_quiet (fail)
      go_wp2_with fail
      refine ret_void rfl rfl fun v => ?_
      exact ⟨v, rfl, HR.out _⟩
    · have t2 : decide (t.p ≤ (curT S).p) = false := by simpa using hle
      have HN : Hid (∀ W, Fr none' w W → Calls Try.prog 60 #[.pointer (some ⟨q.b, 0, none⟩)] W fun e w2 => e = .returned (.int .i64 (i : Int)) ∧ w2.cell? ⟨q.b, 3, none⟩ = some (.slice (some ⟨g, 0, none⟩) S.L.length cap) ∧ w2.cell? ⟨g, i * 5, none⟩ = some (.int .i64 t.i) ∧ w2.cell? ⟨g, i * 5 + 1, none⟩ = some (.int .i64 t.p) ∧ w2.cell? ⟨g, k * 5 + 1, none⟩ = some (.int .i64 (curT S).p) ∧ Hid (∀ n, Calls Try.prog 56 #[.pointer (some ⟨q.b, 0, none⟩), .int .i64 t.i] (w2.drewN n) fun e w3 => ∃ v, e = .returned v ∧ Hid (Calls Try.prog 59 #[.pointer (some ⟨q.b, 0, none⟩)] w3 fun e w4 => ∃ v, e = .returned v ∧ LastS q.b g S.L.length cap i t.i (fun W => ∃ q', ChgD w q W q' (setS S) (setQ S Q)) w4))) := fun W f => (rhi_at (h.keep0 f) gt.tn hl hq hh hi).mono (by
        rintro e w2 ⟨rfl, f2⟩
        have f3 := f.trans f2
        have a := lcell (h.keep0 f3) hv hi
        have b := lcell (h.keep0 f3) hv hk
        refine ⟨rfl, a.1, a.2.1, a.2.2.1, b.2.2.1, fun n => ?_⟩
        have f4 := f3.trans (fr_drewN w2 n)
        refine out1 (h.keep0 f4) hl hv hi (fun w' q' C => ⟨q', ?_⟩)
        have C' := (ChgD.same h f4).trans C
        rw [e1, e2]
        unfold sett settQ
        rw [hu]
        dsimp only
        rw [if_neg hc, if_neg hc, ht]
        have : (some t).getD T0 = t := rfl
        rw [this, if_neg hle, if_neg hle, ← hti]
        exact C'.of rfl rfl rfl rfl rfl)
      clear h e1 e2 hq hH hu gt hc hf hd hk hv hkl ht hh hi hti hlt hle
      generalize setS S = X at *
      generalize setQ S Q = Y at *
      generalize pe S = dp at *
      generalize (curT S).d = dc at *
      generalize (curT S).p = pc at *
      generalize S.c = cc at *
      generalize S.L.length = N at *
      generalize t.p = tp at *
      generalize t.i = ti at *
      go_enter Try.func37, Try.ntmps37
      go_wp2_with fail
      refine D.mono ?_
      rintro e w1 ⟨rfl, nd, rfl⟩
      clear D
      obtain ⟨k5, A, k3, kd⟩ := HK.out _ (fr_drewN w nd)
      have HH := HN.out _ (fr_drewN w nd)
      clear HK HN
      generalize w.drewN nd = w1 at *
      go_wp2_with (first | (go_at_call 60; refine HH.mono ?_; rintro e w2 ⟨rfl, l3, l0, li, lk, HO⟩) | (go_at_call 55; refine A.mono ?_; rintro e w2 ⟨rfl, rfl⟩))
      go_quiet (fail)
      go_wp2_with (first | (go_at_call 59; refine Calls.mono HP.out ?_; rintro e w4 ⟨v, rfl, m3, mi, m5, z5, HR⟩) | (go_at_call 56; refine (HO.out _).mono ?_; rintro e w3 ⟨v, rfl, HP⟩))
      refine post_void rfl rfl fun v => ?_
      exact ⟨v, rfl, HR.out⟩

set_option maxRecDepth 100000 in
set_option maxHeartbeats 4000000 in
theorem rset_c (w : World) (q : Db) (S : Sd) (Q : List Int) (h : IsD w q S Q) (gt : GoodT S) (hc : S.c ≠ -1) (hf : fnd S.L S.c = some (curT S)) (hd : (curT S).d ≠ pe S) (hl : (Q ++ [S.c]).length ≤ 5000) (hq : ∀ x ∈ Q, ∃ t, fnd S.L x = some t) (hH : HigOk (back S gEnd) (Q ++ [S.c])) :
    Calls Try.prog 37 #[.pointer (some ⟨q.b, 0, none⟩)] w fun e w' => ∃ v, e = .returned v ∧ ∃ q', ChgD w q w' q' (setS S) (setQ S Q) := by
  have e1 : setS S = sett (back S gEnd) := by unfold setS; rw [if_pos ⟨hc, hd⟩]
  have e2 : setQ S Q = settQ (back S gEnd) (Q ++ [S.c]) := by unfold setQ; rw [if_pos ⟨hc, hd⟩]
  have D := rdom_any w q S Q h gt.tn
  have hl1 : Q.length ≤ 5000 := by simp at hl; omega
  have hq2 : ∀ x ∈ Q ++ [S.c], ∃ t, fnd (back S gEnd).L x = some t := fun x hx => by
    rcases List.mem_append.mp hx with hx | hx
    · exact hq x hx
    · rw [List.mem_singleton] at hx
      subst hx
      exact ⟨_, hf⟩
  obtain ⟨k, hk⟩ := fnd_ix hf
  obtain ⟨g, cap, hv⟩ := lform h hk
  have hkl := lt_of_get hk
  have j1 : 0 ≤ (k : Int) ∧ (k : Int) < (S.L.length : Int) := by omega
  have j2 : decide (0 ≤ (k : Int)) = true := decide_eq_true (by omega)
  have t1 : ((curT S).d == pe S) = false := by simpa using hd
  have gtb := goodT_back gt gEnd
  have HK0 : ∀ (R : World → Prop), (∀ W q1, ChgD w q W q1 (back S gEnd) (Q ++ [S.c]) → q1.Lv = q.Lv → R W) → Hid (∀ W, Fr none' w W → W.cell? ⟨q.b, 5, none⟩ = some (.int .i64 S.c) ∧ (Calls Try.prog 55 #[.pointer (some ⟨q.b, 0, none⟩), .int .i64 S.c] W fun e w' => e = .returned (.int .i64 (k : Int)) ∧ w' = W) ∧ W.cell? ⟨q.b, 3, none⟩ = some (.slice (some ⟨g, 0, none⟩) S.L.length cap) ∧ W.cell? ⟨g, k * 5 + 2, none⟩ = some (.int .i64 (curT S).d) ∧ W.cell? ⟨q.b, 4, none⟩ = some q.Qv ∧ W.frozen? ⟨q.b, 4, none⟩ = false ∧ ∃ (va : Option Addr) (vn vc : Nat) (w' : World), (Builtin.append_ #[43, 43] 43 #[q.Qv, .slice (some ⟨W.heap.size, 0, none⟩) 1 1]).run Try.prog (W.alloc (.cells #[.int .i64 S.c] 3)).drew = .ok (.slice va vn vc) w' ∧ w'.cell? ⟨q.b, 4, none⟩ = some q.Qv ∧ w'.frozen? ⟨q.b, 4, none⟩ = false ∧ (w'.setCell ⟨q.b, 4, none⟩ (.slice va vn vc)).cell? ⟨q.b, 5, none⟩ = some (.int .i64 S.c) ∧ (w'.setCell ⟨q.b, 4, none⟩ (.slice va vn vc)).frozen? ⟨q.b, 5, none⟩ = false ∧ Hid (R ((w'.setCell ⟨q.b, 4, none⟩ (.slice va vn vc)).setCell ⟨q.b, 5, none⟩ (.int .i64 (-1))))) := fun R hR W f => by
    have h1 := h.keep0 f
    have f1 := ((Fr.refl none' W).alloc (.cells #[.int .i64 S.c] 3)).drew
    obtain ⟨va, vn, vc, w', hrun, b4, y4, _, _, C2⟩ := h1.push hl1 S.c f1 (show Row (W.alloc (.cells #[.int .i64 S.c] 3)).drew W.heap.size #[.int .i64 S.c] 3 from row_alloc _ _ _)
    have C3 := C2.is.setC (-1)
    have b5 := C2.is.cells.2.2.2.2.2
    have y5 := C2.is.frozen 5
    exact ⟨h1.cells.2.2.2.2.2, rat_at h1 hf hk, (lcell h1 hv hk).1, (lcell h1 hv hk).2.2.2, h1.cells.2.2.2.2.1, h1.frozen 4, va, vn, vc, w', hrun, b4, y4, b5, y5, hR _ _ ((((ChgD.same h f).trans C2).trans C3).of rfl rfl rfl rfl rfl) rfl⟩
  obtain ⟨aq, cq, hqv, _⟩ := h.formQ
  cases hu : urg (back S gEnd) (pe (back S gEnd)) 64 with
  | none =>
    have HK := HK0 (fun W => Calls Try.prog 60 #[.pointer (some ⟨q.b, 0, none⟩)] W fun e w2 => e = .returned (.int .i64 (-1)) ∧ Hid (∀ n, ∃ q', ChgD w q (w2.drewN n) q' (setS S) (setQ S Q))) (fun W q1 C hL => by
      have P := rhi_no C.is gtb.tn hl hq2 (hH.no hu)
      rw [C.b] at P
      refine P.mono ?_
      rintro e w2 ⟨rfl, f2⟩
      refine ⟨rfl, fun n => ⟨q1, ?_⟩⟩
      rw [e1, e2]
      unfold sett settQ
      rw [hu]
      exact C.trans (ChgD.same C.is (f2.trans (fr_drewN _ n))))
    rw [hqv] at HK
    clear h e1 e2 hq hH hu gt hc hf hd hk hv hkl HK0 gtb hqv hl hl1 hq2
    generalize setS S = X at *
    generalize setQ S Q = Y at *
    generalize pe S = dp at *
    generalize (curT S).d = dc at *
    generalize S.c = cc at *
    generalize S.L.length = N at *
    generalize Q.length = M at *
    go_enter Try.func37, Try.ntmps37
    go_wp2_with fail
    refine D.mono ?_
    rintro e w1 ⟨rfl, nd, rfl⟩
    clear D
    obtain ⟨k5, A, k3, kd, k4, z4, va, vn, vc, w5, hrun, b4, y4, b5, y5, HX⟩ := HK.out _ (fr_drewN w nd)
    clear HK
    generalize w.drewN nd = w1 at *
    have ca1 := cell_keep ((Fr.refl none' w1).alloc (.cells #[.int .i64 cc] 3)) k4 (fun h => h)
    go_wp2_with (go_at_call 55; refine A.mono ?_; rintro e w2 ⟨rfl, rfl⟩)
    go_region_law (first | (refine step_append_run rfl (.tmp 31) (.tmp 36) 43 rfl _ _ _ _ rfl rfl hrun ?_))
    all_goals go_wp2_with (go_at_call 60; refine Calls.mono HX.out ?_; rintro e w6 ⟨rfl, HR⟩)
    all_goals go_quiet (fail)
    all_goals go_wp2_with fail
    all_goals refine ret_void rfl rfl fun v => ?_
    all_goals exact ⟨v, rfl, HR.out _⟩
  | some x =>
    obtain ⟨t, ht, hh⟩ := hH.yes x hu
    obtain ⟨i, hi⟩ := fnd_ix ht
    have hti := fnd_i ht
    have hlt := lt_of_get hi
    replace hlt : i < S.L.length := hlt
    have i1 : 0 ≤ (i : Int) ∧ (i : Int) < (S.L.length : Int) := by omega
    have i2 : decide ((i : Int) < 0) = false := decide_eq_false (by omega)
    have HK := HK0 (fun W => Calls Try.prog 60 #[.pointer (some ⟨q.b, 0, none⟩)] W fun e w2 => e = .returned (.int .i64 (i : Int)) ∧ w2.cell? ⟨q.b, 3, none⟩ = some (.slice (some ⟨g, 0, none⟩) S.L.length cap) ∧ w2.cell? ⟨g, i * 5, none⟩ = some (.int .i64 t.i) ∧ Hid (∀ n, Calls Try.prog 56 #[.pointer (some ⟨q.b, 0, none⟩), .int .i64 t.i] (w2.drewN n) fun e w3 => ∃ v, e = .returned v ∧ LastS q.b g S.L.length cap i t.i (fun W => ∃ q', ChgD w q W q' (setS S) (setQ S Q)) w3)) (fun W q1 C hL => by
      have P := rhi_at C.is gtb.tn hl hq2 hh hi
      rw [C.b] at P
      refine P.mono ?_
      rintro e w2 ⟨rfl, f2⟩
      have hv1 : q1.Lv = .slice (some ⟨g, 0, none⟩) (back S gEnd).L.length cap := by rw [hL]; exact hv
      have a := lcell (C.is.keep0 f2) hv1 hi
      rw [C.b] at a
      refine ⟨rfl, a.1, a.2.1, fun n => ?_⟩
      have f4 := f2.trans (fr_drewN w2 n)
      have O := out0 (C.is.keep0 f4) hl rfl hv1 hi (R := fun W => ∃ q', ChgD w q W q' (setS S) (setQ S Q)) (fun w' q' C4 => ⟨q', by
        have C' := (C.trans (ChgD.same C.is f4)).trans C4
        rw [e1, e2]
        unfold sett settQ
        rw [hu]
        dsimp only
        have hcb : (back S gEnd).c = -1 := rfl
        rw [if_pos hcb, if_pos hcb, ← hti]
        exact C'.of rfl rfl rfl rfl rfl⟩)
      rw [C.b] at O
      exact O)
    rw [hqv] at HK
    clear h e1 e2 hq hH hu gt hc hf hd hk hv hkl HK0 gtb hqv hl hl1 hq2 ht hh hi hti hlt
    generalize setS S = X at *
    generalize setQ S Q = Y at *
    generalize pe S = dp at *
    generalize (curT S).d = dc at *
    generalize S.c = cc at *
    generalize S.L.length = N at *
    generalize Q.length = M at *
    generalize t.i = ti at *
    go_enter Try.func37, Try.ntmps37
    go_wp2_with fail
    refine D.mono ?_
    rintro e w1 ⟨rfl, nd, rfl⟩
    clear D
    obtain ⟨k5, A, k3, kd, k4, z4, va, vn, vc, w5, hrun, b4, y4, b5, y5, HX⟩ := HK.out _ (fr_drewN w nd)
    clear HK
    generalize w.drewN nd = w1 at *
    have ca1 := cell_keep ((Fr.refl none' w1).alloc (.cells #[.int .i64 cc] 3)) k4 (fun h => h)
    go_wp2_with (go_at_call 55; refine A.mono ?_; rintro e w2 ⟨rfl, rfl⟩)
    go_region_law (first | (refine step_append_run rfl (.tmp 31) (.tmp 36) 43 rfl _ _ _ _ rfl rfl hrun ?_))
    all_goals go_wp2_with (go_at_call 60; refine Calls.mono HX.out ?_; rintro e w6 ⟨rfl, l3, li, HO⟩)
    all_goals go_quiet (fail)
    all_goals go_wp2_with (go_at_call 56; refine (HO.out _).mono ?_; rintro e w7 ⟨v, rfl, m3, mi, m5, z5, HR⟩)
    all_goals refine post_void rfl rfl fun v => ?_
    all_goals exact ⟨v, rfl, HR.out⟩

end Go.Proofs.Ytipfgenbfnkpfaa
