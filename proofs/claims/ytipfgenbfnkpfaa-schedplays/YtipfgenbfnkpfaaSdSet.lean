/-
  The contract of package sched's Settle over the translation. No statement is proved here.
-/
import Derived.Test.YtipfgenbfnkpfaaSdMu
namespace Go.Proofs.Ytipfgenbfnkpfaa
open Go.RowKit Go.Maps Go.WideMaps

/-- What is left of Settle once it is known who is taken out of its queue. -/
def TkO (b g : Nat) (R : World → Prop) (w2 : World) : Prop := Calls Try.prog 46 #[.pointer (some ⟨b, 0, none⟩), pv g, .func (.func 47) #[] #[]] w2 fun e w3 => ∃ v, e = .returned v ∧ w3.cell? ⟨b, 257, none⟩ = some (.pointer none) ∧ w3.frozen? ⟨b, 257, none⟩ = false ∧ Hid (R (w3.setCell ⟨b, 257, none⟩ (pv g)))

theorem pe_back (S : Sd) (g : Int → List Int → List Int) : pe (back S g) = pe S := rfl

/-- Nobody is current, nobody is ready. -/
theorem tail_none (w1 : World) (p1 : Pb) (T : Sd) (h : IsS w1 p1 T) (oq : OkQ T) (gt : GoodT T) (hu : urg T (pe T) 64 = none) {R : World → Prop} (hR : ∀ w2 p2, p2.b = p1.b → Chg w1 p1 T w2 p2 (sett T) → R w2) :
    Calls Try.prog 44 #[.pointer (some ⟨p1.b, 0, none⟩)] w1 fun e w2 => e = .returned (.pointer none) ∧ Hid (R w2) := by
  refine (mu_any w1 p1 T h oq gt).mono ?_
  rintro e w2 ⟨rfl, f⟩
  rw [hu]
  have e1 : sett T = T := by unfold sett; rw [hu]
  exact ⟨rfl, hR w2 p1 rfl (by rw [e1]; exact Chg.same h f)⟩

/-- Nobody is current, one is ready. -/
theorem tail_some (w1 : World) (p1 : Pb) (T : Sd) (h : IsS w1 p1 T) (oq : OkQ T) (gt : GoodT T) (hc : T.c = -1) {x : Int} (hu : urg T (pe T) 64 = some x) {R : World → Prop} (hR : ∀ w2 p2, p2.b = p1.b → Chg w1 p1 T w2 p2 (sett T) → R w2) :
    Calls Try.prog 44 #[.pointer (some ⟨p1.b, 0, none⟩)] w1 fun e w2 => e = .returned (pv (p1.B x)) ∧ w2.cell? ⟨p1.b, 257, none⟩ = some (.pointer none) ∧ Hid (TkO p1.b (p1.B x) R w2) := by
  obtain ⟨t, hf, ha, hd, hx, hq, _⟩ := urg_is oq ⟨gt.pt.d0, gt.pt.d1⟩ hu
  have e1 : sett T = { app T t gOut with c := x } := by
    unfold sett
    rw [hu]
    dsimp only
    rw [if_pos hc, hf]
    rfl
  have hx1 : x ≠ -1 := by have := fnd_pos oq.gl hf; omega
  refine (mu_any w1 p1 T h oq gt).mono ?_
  rintro e w2 ⟨rfl, f⟩
  rw [hu]
  have h2 := h.keep0 f
  have c2 := h2.cells.2.1
  rw [hc, curV_none] at c2
  refine ⟨rfl, c2, ?_⟩
  refine (apply_k w2 p1 T h2 makes_out hf (oq.sh _ (oq.gl.all t (fnd_mem hf).1).ky)).mono ?_
  rintro e w3 ⟨v, V', rfl, C⟩
  have c3 := C.is.cells.2.1
  rw [show (app T t gOut).c = -1 from hc, curV_none] at c3
  refine ⟨v, rfl, c3, C.is.frozen 257, ?_⟩
  have C2 := C.is.setCur x
  rw [curV_some hx1] at C2
  refine hR _ { p1 with V := V' } rfl ?_
  rw [e1]
  exact (Chg.same h f).trans (C.trans C2)

set_option maxRecDepth 100000 in
set_option maxHeartbeats 2000000 in
theorem settle_any (w : World) (p : Pb) (S : Sd) (h : IsS w p S) (ok : Ok S) :
    Calls Try.prog 14 #[.pointer (some ⟨p.b, 0, none⟩)] w fun e w' => ∃ v, e = .returned v ∧ ∃ p', p'.b = p.b ∧ Chg w p S w' p' (setS S) := by
  have cc := h.cells.2.1
  by_cases hc : S.c = -1
  · have e1 : setS S = sett S := by unfold setS; rw [if_neg (fun e => e.1 hc)]
    rw [hc, curV_none] at cc
    cases hu : urg S (pe S) 64 with
    | none =>
      have HM : Hid (∀ n, Calls Try.prog 44 #[.pointer (some ⟨p.b, 0, none⟩)] (w.drewN n) fun e w2 => e = .returned (.pointer none) ∧ Hid (∃ p', p'.b = p.b ∧ Chg w p S w2 p' (setS S))) := fun n => tail_none _ p S (h.keep0 (fr_drewN w n)) ok.q ok.t hu (fun w2 p2 q1 C => ⟨p2, q1, by rw [e1]; exact C.before (fr_drewN w n) h⟩)
      clear h ok hc e1 hu
      generalize setS S = X at *
      go_enter Try.func14, Try.ntmps14
      go_wp2_with fail
      go_quiet (fail)
      go_wp2_with (go_at_call 44; refine (HM.out _).mono ?_; rintro e w2 ⟨rfl, HC⟩)
      refine ret_void rfl rfl fun v => ?_
      exact ⟨v, rfl, HC.out⟩
    | some x =>
      have HM : Hid (∀ n, Calls Try.prog 44 #[.pointer (some ⟨p.b, 0, none⟩)] (w.drewN n) fun e w2 => e = .returned (pv (p.B x)) ∧ w2.cell? ⟨p.b, 257, none⟩ = some (.pointer none) ∧ Hid (TkO p.b (p.B x) (fun w2 => ∃ p', p'.b = p.b ∧ Chg w p S w2 p' (setS S)) w2)) := fun n => tail_some _ p S (h.keep0 (fr_drewN w n)) ok.q ok.t hc hu (fun w2 p2 q1 C => ⟨p2, q1, by rw [e1]; exact C.before (fr_drewN w n) h⟩)
      clear h ok hc e1 hu
      generalize setS S = X at *
      generalize p.B x = g at *
      go_enter Try.func14, Try.ntmps14
      go_wp2_with fail
      go_quiet (fail)
      go_wp2_with (first | (go_at_call 46; refine Calls.mono HA.out ?_; rintro e w3 ⟨v, rfl, c3, z3, HC⟩) | (go_at_call 44; refine (HM.out _).mono ?_; rintro e w2 ⟨rfl, c2, HA⟩))
      refine post_void rfl rfl fun v => ?_
      exact ⟨v, rfl, HC.out⟩
  · obtain ⟨hf, ha, hi⟩ := ok.q.get hc
    have hm := (fnd_mem hf).1
    have r1 := h.tk _ hm
    rw [hi] at r1
    have c2 := r1.cells.2.2.1
    rw [curV_some hc] at cc
    have D : Hid (∀ n, Calls Try.prog 15 #[.pointer (some ⟨p.b, 0, none⟩)] (w.drewN n) fun e w' => e = .returned (.int .i64 (pe S)) ∧ ∃ m, w' = (w.drewN n).drewN m) := fun n => domain_any _ p S (h.keep0 (fr_drewN w n)) ok.t
    by_cases hd : (curT S).d = pe S
    · have e1 : setS S = sett S := by unfold setS; rw [if_neg (fun e => e.2 hd)]
      have t1 : ((curT S).d == pe S) = true := by simpa using hd
      cases hu : urg S (pe S) 64 with
      | none =>
        have HM : Hid (∀ n, Calls Try.prog 44 #[.pointer (some ⟨p.b, 0, none⟩)] (w.drewN n) fun e w2 => e = .returned (.pointer none) ∧ Hid (∃ p', p'.b = p.b ∧ Chg w p S w2 p' (setS S))) := fun n => tail_none _ p S (h.keep0 (fr_drewN w n)) ok.q ok.t hu (fun w2 p2 q1 C => ⟨p2, q1, by rw [e1]; exact C.before (fr_drewN w n) h⟩)
        clear h ok hc e1 hu hf ha hi hm r1 hd
        generalize setS S = X at *
        generalize p.B S.c = gc at *
        generalize (curT S).d = dc at *
        generalize pe S = dp at *
        go_enter Try.func14, Try.ntmps14
        go_wp2_with fail
        go_quiet (first | (go_at_call 15; refine Calls.quiet_of (D.out _)))
        go_wp2_with (go_at_call 44; refine (HM.out _).mono ?_; rintro e w2 ⟨rfl, HC⟩)
        refine ret_void rfl rfl fun v => ?_
        exact ⟨v, rfl, HC.out⟩
      | some x =>
        obtain ⟨t, hft, hat, hdt, hx, hq, _⟩ := urg_is ok.q ⟨ok.t.pt.d0, ok.t.pt.d1⟩ hu
        have hx1 : x ≠ -1 := by have := fnd_pos ok.q.gl hft; omega
        have HM : ∀ R : World → Prop, (∀ w2, Fr none' w w2 → R w2) → Hid (∀ n, Calls Try.prog 44 #[.pointer (some ⟨p.b, 0, none⟩)] (w.drewN n) fun e w2 => e = .returned (pv (p.B x)) ∧ w2.cell? ⟨p.b, 257, none⟩ = some (pv (p.B S.c)) ∧ w2.cell? ⟨p.B x, 1, none⟩ = some (.int .i64 t.p) ∧ w2.cell? ⟨p.B S.c, 1, none⟩ = some (.int .i64 (curT S).p) ∧ Hid (R w2)) := fun R hR n => (mu_any _ p S (h.keep0 (fr_drewN w n)) ok.q ok.t).mono (by
          rintro e w2 ⟨rfl, f⟩
          rw [hu]
          have f2 := (fr_drewN w n).trans f
          have h2 := h.keep0 f2
          have a1 := h2.cells.2.1
          rw [curV_some hc] at a1
          have a2 := (h2.tk t (fnd_mem hft).1).cells.2.1
          rw [fnd_i hft] at a2
          have a3 := (h2.tk _ hm).cells.2.1
          rw [hi] at a3
          exact ⟨rfl, a1, a2, a3, hR w2 f2⟩)
        by_cases hle : t.p ≤ (curT S).p
        · have e2 : sett S = S := by
            unfold sett
            rw [hu]
            dsimp only
            rw [if_neg hc, hft]
            exact if_pos hle
          have HN := HM (fun w2 => ∀ n, ∃ p', p'.b = p.b ∧ Chg w p S (w2.drewN n) p' (setS S)) (fun w2 f n => ⟨p, rfl, by rw [e1, e2]; exact Chg.same h (f.trans (fr_drewN w2 n))⟩)
          have t2 : decide (t.p ≤ (curT S).p) = true := by simpa using hle
          clear h ok hc e1 e2 hu hf ha hi hm r1 hd HM hft hat hdt hx hq hx1 hle
          generalize setS S = X at *
          generalize p.B S.c = gc at *
          generalize p.B x = g at *
          generalize (curT S).d = dc at *
          generalize (curT S).p = pc at *
          generalize t.p = tp at *
          generalize pe S = dp at *
          go_enter Try.func14, Try.ntmps14
          go_wp2_with fail
          go_quiet (first | (go_at_call 15; refine Calls.quiet_of (D.out _)))
          go_wp2_with (go_at_call 44; refine (HN.out _).mono ?_; rintro e w2 ⟨rfl, a1, a2, a3, HC⟩)
          go_quiet (fail)
          go_wp2_with fail
          refine ret_void rfl rfl fun v => ?_
          exact ⟨v, rfl, HC.out _⟩
        · have e2 : sett S = { app (back S gFront) t gOut with c := x } := by
            unfold sett
            rw [hu]
            dsimp only
            rw [if_neg hc, hft]
            exact if_neg hle
          have HN := HM (fun w2 => ∀ n, Calls Try.prog 42 #[.pointer (some ⟨p.b, 0, none⟩), .func (.func 45) #[] #[]] (w2.drewN n) fun e w3 => ∃ v, e = .returned v ∧ Hid (TkO p.b (p.B x) (fun w2 => ∃ p', p'.b = p.b ∧ Chg w p S w2 p' (setS S)) w3)) (fun w2 f n => by
            have f2 := f.trans (fr_drewN w2 n)
            have h2 := h.keep0 f2
            refine (back_any _ p S h2 makes_front hc hf (ok.q.sh _ (ok.q.gl.all _ hm).ky)).mono ?_
            rintro e w3 ⟨v, V', rfl, C⟩
            refine ⟨v, rfl, ?_⟩
            have oqb := okq_backF ok.q hc
            refine (apply_k w3 _ _ C.is makes_out (k := x) hft (oqb.sh _ (ok.q.gl.all t (fnd_mem hft).1).ky)).mono ?_
            rintro e w4 ⟨v2, V2, rfl, C2⟩
            have c4 := C2.is.cells.2.1
            rw [show (app (back S gFront) t gOut).c = -1 from rfl, curV_none] at c4
            refine ⟨v2, rfl, c4, C2.is.frozen 257, ?_⟩
            have C3 := C2.is.setCur x
            rw [curV_some hx1] at C3
            refine exP (p' := { ({ p with V := V' } : Pb) with V := V2 }) ?_ rfl
            rw [e1, e2]
            exact (Chg.same h f2).trans (C.trans (C2.trans C3)))
          have t2 : decide (t.p ≤ (curT S).p) = false := by simpa using hle
          clear h ok hc e1 e2 hu hf ha hi hm r1 hd HM hft hat hdt hx hq hx1 hle
          generalize setS S = X at *
          generalize p.B S.c = gc at *
          generalize p.B x = g at *
          generalize (curT S).d = dc at *
          generalize (curT S).p = pc at *
          generalize t.p = tp at *
          generalize pe S = dp at *
          go_enter Try.func14, Try.ntmps14
          go_wp2_with fail
          go_quiet (first | (go_at_call 15; refine Calls.quiet_of (D.out _)))
          go_wp2_with (go_at_call 44; refine (HN.out _).mono ?_; rintro e w2 ⟨rfl, a1, a2, a3, HB⟩)
          go_quiet (fail)
          go_wp2_with (first | (go_at_call 46; refine Calls.mono HA.out ?_; rintro e w4 ⟨v, rfl, c4, z4, HC⟩) | (go_at_call 42; refine (HB.out _).mono ?_; rintro e w3 ⟨v, rfl, HA⟩))
          refine post_void rfl rfl fun v => ?_
          exact ⟨v, rfl, HC.out⟩
    · have e1 : setS S = sett (back S gEnd) := by unfold setS; rw [if_pos ⟨hc, hd⟩]
      have t1 : ((curT S).d == pe S) = false := by simpa using hd
      have oqb := okq_backE ok.q hc
      have gtb := goodT_back ok.t gEnd
      have PB : ∀ n, Calls Try.prog 42 #[.pointer (some ⟨p.b, 0, none⟩), .func (.func 43) #[] #[]] (w.drewN n) fun e w1 => ∃ v V', e = .returned v ∧ Chg w p S w1 { p with V := V' } (back S gEnd) := fun n => (back_any _ p S (h.keep0 (fr_drewN w n)) makes_end hc hf (ok.q.sh _ (ok.q.gl.all _ hm).ky)).mono (by
        rintro e w1 ⟨v, V', rfl, C⟩
        exact ⟨v, V', rfl, C.before (fr_drewN w n) h⟩)
      cases hu : urg (back S gEnd) (pe (back S gEnd)) 64 with
      | none =>
        have HB : Hid (∀ n, Calls Try.prog 42 #[.pointer (some ⟨p.b, 0, none⟩), .func (.func 43) #[] #[]] (w.drewN n) fun e w1 => ∃ v, e = .returned v ∧ Hid (Calls Try.prog 44 #[.pointer (some ⟨p.b, 0, none⟩)] w1 fun e w2 => e = .returned (.pointer none) ∧ Hid (∃ p', p'.b = p.b ∧ Chg w p S w2 p' (setS S)))) := fun n => (PB n).mono (by
          rintro e w1 ⟨v, V', rfl, C⟩
          exact ⟨v, rfl, tail_none w1 { p with V := V' } _ C.is oqb gtb hu (fun w2 p2 q1 C2 => ⟨p2, q1, by rw [e1]; exact C.trans C2⟩)⟩)
        clear h ok hc e1 hu hf ha hi hm r1 hd PB oqb gtb
        generalize setS S = X at *
        generalize p.B S.c = gc at *
        generalize (curT S).d = dc at *
        generalize pe S = dp at *
        go_enter Try.func14, Try.ntmps14
        go_wp2_with fail
        go_quiet (first | (go_at_call 15; refine Calls.quiet_of (D.out _)))
        go_wp2_with (first | (go_at_call 44; refine Calls.mono HM.out ?_; rintro e w2 ⟨rfl, HC⟩) | (go_at_call 42; refine (HB.out _).mono ?_; rintro e w1 ⟨v, rfl, HM⟩))
        refine ret_void rfl rfl fun v => ?_
        exact ⟨v, rfl, HC.out⟩
      | some x =>
        have HB : Hid (∀ n, Calls Try.prog 42 #[.pointer (some ⟨p.b, 0, none⟩), .func (.func 43) #[] #[]] (w.drewN n) fun e w1 => ∃ v, e = .returned v ∧ Hid (Calls Try.prog 44 #[.pointer (some ⟨p.b, 0, none⟩)] w1 fun e w2 => e = .returned (pv (p.B x)) ∧ w2.cell? ⟨p.b, 257, none⟩ = some (.pointer none) ∧ Hid (TkO p.b (p.B x) (fun w2 => ∃ p', p'.b = p.b ∧ Chg w p S w2 p' (setS S)) w2))) := fun n => (PB n).mono (by
          rintro e w1 ⟨v, V', rfl, C⟩
          exact ⟨v, rfl, tail_some w1 { p with V := V' } _ C.is oqb gtb rfl hu (fun w2 p2 q1 C2 => ⟨p2, q1, by rw [e1]; exact C.trans C2⟩)⟩)
        clear h ok hc e1 hu hf ha hi hm r1 hd PB oqb gtb
        generalize setS S = X at *
        generalize p.B S.c = gc at *
        generalize p.B x = g at *
        generalize (curT S).d = dc at *
        generalize pe S = dp at *
        go_enter Try.func14, Try.ntmps14
        go_wp2_with fail
        go_quiet (first | (go_at_call 15; refine Calls.quiet_of (D.out _)))
        go_wp2_with (first | (go_at_call 46; refine Calls.mono HA.out ?_; rintro e w3 ⟨v, rfl, c3, z3, HC⟩) | (go_at_call 44; refine Calls.mono HM.out ?_; rintro e w2 ⟨rfl, a2, HA⟩) | (go_at_call 42; refine (HB.out _).mono ?_; rintro e w1 ⟨v, rfl, HM⟩))
        refine post_void rfl rfl fun v => ?_
        exact ⟨v, rfl, HC.out⟩

end Go.Proofs.Ytipfgenbfnkpfaa
