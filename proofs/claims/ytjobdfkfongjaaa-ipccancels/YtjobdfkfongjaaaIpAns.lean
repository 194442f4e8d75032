/-
  Package ipc's Unbind, Cancel, State, Caller, Lit, Inbox and New over the translation. No statement is proved here.
-/
import Derived.Test.YtjobdfkfongjaaaIpBnd
namespace Go.Proofs.Ytjobdfkfongjaaa
open Go.RowKit Go.Maps Go.WideMaps

/-! ### Unbind -/
set_option maxRecDepth 100000 in
set_option maxHeartbeats 2000000 in
theorem In.unbind {w0 w : World} {p0 p : Pb} {S0 S : Ip} {b : Nat} (h : In w0 p0 S0 b w p S) (t : Int) :
    Calls Try.prog 28 #[pv b, .int .i64 t] w fun e w' => ∃ p', e = .returned (.int .i64 (unbE S t)) ∧ In w0 p0 S0 b w' p' (unbS S t) ∧ Kp p S p' (unbS S t) := by
  cases hn : numB t with
  | false =>
    have e1 : unbE S t = 1 := by unfold unbE; rw [hn]; rfl
    have e2 : unbS S t = S := by unfold unbS; rw [hn]; rfl
    rw [e1, e2]
    clear e1 e2
    go_enter Try.func28, Try.ntmps28
    go_wp2_with (first | (go_at_call 56; refine (isn_any _ _).mono ?_; rintro e w1 ⟨rfl, rfl⟩))
    go_ret
    exact ⟨p, rfl, h, fun _ _ k => k⟩
  | true =>
    have eT : thrT (thrS S t) t = thrT S t := thrT_of (thr_at S t)
    by_cases hnt : (thrT S t).nt = -1
    · have e1 : unbE S t = 131 := by unfold unbE; rw [if_pos hn, if_pos hnt]
      have e2 : unbS S t = thrS S t := by unfold unbS; rw [if_pos hn, if_neg (by omega)]
      have hnt' : ((thrT (thrS S t) t).nt == -1) = true := by rw [eT, hnt]; rfl
      rw [e1, e2]
      clear e1 e2 eT hnt
      go_enter Try.func28, Try.ntmps28
      go_wp2_with (first | (go_at_call 56; refine (isn_any _ _).mono ?_; rintro e w1 ⟨rfl, rfl⟩) | (go_at_call 60; refine (h.thread hn).mono ?_; rintro e w4 ⟨g, p4, rfl, h4, k4, q4⟩; have cnt := (h4.th k4).cnt))
      go_ret
      exact ⟨p4, rfl, h4, q4⟩
    · have e1 : unbE S t = 0 := by unfold unbE; rw [if_pos hn, if_neg hnt]
      have e2 : unbS S t = { thrS S t with L := upd (thrS S t).L t (setN (-1)), bd := fun k => if k = (thrT S t).nt then none else S.bd k } := by unfold unbS; rw [if_pos hn, if_pos e1]
      have hnt' : ((thrT (thrS S t) t).nt == -1) = false := by rw [eT]; simpa using hnt
      have okU := ok_unb h.ok t
      rw [e2] at okU
      rw [e1, e2]
      have okT : Ok (thrS S t) := ok_thr h.ok hn
      have hbd : S.bd (thrT S t).nt = some t := by
        rw [← thr_bd S t]
        exact (okT.bd _ t).2 ⟨_, thr_at S t, rfl, hnt⟩
      have h64 : I64 (thrT S t).nt := by
        rcases okT.nt t _ (thr_at S t) with e | e
        · exact absurd e hnt
        · exact i64s (by omega) (by omega)
      have HB : Hid (∀ w1 p1 g, In w0 p0 S0 b w1 p1 (thrS S t) → Tg p1 (thrS S t) t g → w1.cell? ⟨b, 3, none⟩ = some (.map (some p1.d)) ∧ ∃ w9, (∀ ty, (Builtin.delete_ #[68, 3] ty #[.map (some p1.d), .int .i64 (thrT (thrS S t) t).nt]).run Try.prog w1.drew = .ok (.tuple #[]) w9) ∧ w9.cell? ⟨g, 19, none⟩ = some (.int .i64 (thrT (thrS S t) t).nt) ∧ w9.frozen? ⟨g, 19, none⟩ = false ∧ Hid (In w0 p0 S0 b (w9.setCell ⟨g, 19, none⟩ (.int .i64 (-1))) p1 { thrS S t with L := upd (thrS S t).L t (setN (-1)), bd := fun k => if k = (thrT S t).nt then none else S.bd k } ∧ Kp p1 (thrS S t) p1 { thrS S t with L := upd (thrS S t).L t (setN (-1)), bd := fun k => if k = (thrT S t).nt then none else S.bd k })) := fun w1 p1 g h1 k1 => by
        have c3 := h1.chg.is.c3
        rw [h1.eb] at c3
        have h2 := h1.keep0 (Fr.refl none' w1).drew
        obtain ⟨w9, r1, m9, f9⟩ := h2.chg.is.mb.drop h64 (y := p1.B t) (by unfold bdF; rw [thr_bd, hbd]; rfl) (f' := fun j => if j = (thrT S t).nt then none else bdF p1 (thrS S t) j) (fun _ => rfl)
        have C1 := h2.chg.is.setBd (f := fun k => if k = (thrT S t).nt then none else S.bd k) f9 (m9.congr fun k => by
          unfold bdF
          rw [thr_bd]
          split <;> rfl)
        have r9 := C1.is.look (k := t) (t := thrT (thrS S t) t) k1.thrT
        rw [k1.eq] at r9
        have C2 := C1.is.setTk (k := t) (t := thrT (thrS S t) t) k1.thrT (f := setN (-1)) (fun _ => rfl) (w' := w9.setCell ⟨g, 19, none⟩ (.int .i64 (-1))) (by rw [k1.eq]; exact fr_set _ _ _ _ (Fr.refl _ _)) (by rw [k1.eq]; exact r9.setN (-1))
        exact ⟨c3, w9, by rw [eT]; exact r1, r9.cnt, r9.frozen 19, h2.go (C1.trans C2) okU, kp_chg (C1.trans C2)⟩
      clear e1 e2 okU okT hbd h64 eT hnt
      go_enter Try.func28, Try.ntmps28
      go_wp2_with (first | (go_at_call 56; refine (isn_any _ _).mono ?_; rintro e w1 ⟨rfl, rfl⟩) | (go_at_call 60; refine (h.thread hn).mono ?_; rintro e w4 ⟨g, p4, rfl, h4, k4, q4⟩; have cnt := (h4.th k4).cnt; obtain ⟨c3, w9, hrun, c9, z9, H9⟩ := HB.out w4 p4 g h4 k4))
      go_region_with (fail)
      all_goals go_wp2
      all_goals go_ret
      all_goals exact ⟨p4, rfl, H9.out.1, fun x g' k => H9.out.2 _ _ (q4 _ _ k)⟩

/-! ### Cancel -/
set_option maxRecDepth 100000 in
set_option maxHeartbeats 2000000 in
theorem In.cancel {w0 w : World} {p0 p : Pb} {S0 S : Ip} {b : Nat} (h : In w0 p0 S0 b w p S) (t : Int) (ht : I64 t) :
    Calls Try.prog 18 #[pv b, .int .i64 t] w fun e w' => ∃ p', e = .returned (.bool (waiB S t)) ∧ In w0 p0 S0 b w' p' (canS S t) ∧ Kp p S p' (canS S t) := by
  cases hw : waiB S t with
  | false =>
    have e2 : canS S t = S := by unfold canS; rw [if_neg (by rw [hw]; simp)]
    rw [e2]
    clear e2
    go_enter Try.func18, Try.ntmps18
    go_wp2_with (go_at_call 54; refine (h.waits ht).mono ?_; rintro e w2 ⟨rfl, f2⟩)
    go_ret
    exact ⟨p, rfl, h.keep0 f2, fun _ _ k => k⟩
  | true =>
    have e2 : canS S t = leaS S t := by unfold canS; rw [if_pos hw]
    rw [e2]
    obtain ⟨u, hu⟩ : ∃ u, fnd S.L t = some u := by
      cases e : fnd S.L t with
      | some u => exact ⟨u, rfl⟩
      | none => simp [waiB, plcS, plcO, thrT, e, newTh] at hw
    have hst : (thrT S t).st ≠ 0 := by
      rw [thrT_of hu]
      intro e
      have := (wai_iff h.ok hu).2 e
      rw [hw] at this
      cases this
    have k0 : Tg p S t (p.B t) := tg_of hu
    have HX : Hid (∀ w1, Fr none' w w1 → w1.cell? ⟨b, 0, none⟩ = some (.map (some p.m)) ∧ (Instr.lookup 68 (.map (some p.m)) (.int .i64 t) false).run Try.prog w1 = .ok (pv (p.B t)) w1) := fun w1 f1 => by
      have h1 := h.keep0 f1
      have c0 := h1.chg.is.c0
      rw [h1.eb] at c0
      exact ⟨c0, h1.chg.is.mt.look0_some ht (map_some hu)⟩
    clear e2 hu
    generalize p.B t = g at *
    go_enter Try.func18, Try.ntmps18
    go_wp2_with (first | (go_at_call 54; refine (h.waits ht).mono ?_; rintro e w2 ⟨rfl, f2⟩; obtain ⟨c0, hL⟩ := HX.out w2 f2) | (go_at_call 55; refine ((h.keep0 f2).leave k0 hst).mono ?_; rintro e w5 ⟨v5, p1, rfl, h5, q5⟩))
    go_ret
    exact ⟨p1, rfl, h5, q5⟩

/-! ### State, Caller, Lit -/
set_option maxHeartbeats 1000000 in
theorem In.state {w0 w : World} {p0 p : Pb} {S0 S : Ip} {b : Nat} (h : In w0 p0 S0 b w p S) (t : Int) (ht : I64 t) :
    Calls Try.prog 16 #[pv b, .int .i64 t] w fun e w' => e = .returned (.tuple #[.int .i64 (plcS S t), .int .i64 (plcO S t)]) ∧ Fr none' w w' := by
  have HI : Hid (Calls Try.prog 50 #[pv b, .int .i64 t] w fun e w' => e = .returned (plV (plcS S t) (plcO S t)) ∧ Fr none' w w') := h.place ht
  clear h
  generalize plcS S t = x at *
  generalize plcO S t = y at *
  go_enter Try.func16, Try.ntmps16
  go_wp2_with (go_at_call 50; refine (Calls.mono HI.out ?_); rintro e w1 ⟨rfl, f1⟩)
  go_quiet (fail)
  go_wp2
  go_ret2
  exact ⟨rfl, (f1.alloc _).trans (fr_drewN _ _)⟩

set_option maxHeartbeats 1000000 in
theorem In.callr {w0 w : World} {p0 p : Pb} {S0 S : Ip} {b : Nat} (h : In w0 p0 S0 b w p S) (t : Int) :
    Calls Try.prog 15 #[pv b, .int .i64 t] w fun e w' => e = .returned (.int .i64 (forN S t)) ∧ Fr none' w w' := by
  unfold forN
  cases e : calO S t with
  | none =>
    have HI : Hid (Calls Try.prog 49 #[pv b, .int .i64 t] w fun e w' => e = .returned (.pointer none) ∧ Fr none' w w') := h.caller_none e
    clear h e
    go_enter Try.func15, Try.ntmps15
    go_wp2_with (first | (go_at_call 49; refine (Calls.mono HI.out ?_); rintro e w1 ⟨rfl, f1⟩) | (go_at_call 48; refine (number_nil _).mono ?_; rintro e w2 ⟨rfl, rfl⟩))
    go_ret
    exact ⟨rfl, f1⟩
  | some c =>
    have HI : Hid (Calls Try.prog 49 #[pv b, .int .i64 t] w fun e w' => ∃ g, e = .returned (pv g) ∧ Fr none' w w' ∧ Tg p S c g) := h.caller_some e
    clear e
    go_enter Try.func15, Try.ntmps15
    go_wp2_with (first | (go_at_call 49; refine (Calls.mono HI.out ?_); rintro e w1 ⟨g, rfl, f1, k⟩) | (go_at_call 48; refine (number_at ((h.keep0 f1).th k)).mono ?_; rintro e w2 ⟨rfl, rfl⟩))
    go_ret
    refine ⟨?_, f1⟩
    rw [k.i]
    rfl

set_option maxHeartbeats 1000000 in
theorem In.litQ {w0 w : World} {p0 p : Pb} {S0 S : Ip} {b : Nat} (h : In w0 p0 S0 b w p S) (n : Int) (hn : I64 n) :
    Calls Try.prog 46 #[pv b, .int .i64 n] w fun e w' => e = .returned (.tuple #[.int .i64 ((S.lt n).getD 0), .bool (S.lt n).isSome]) ∧ w' = w := by
  have c2 := h.chg.is.c2
  rw [h.eb] at c2
  have hL := h.chg.is.ml.look hn
  clear h
  generalize (S.lt n).getD 0 = x at *
  generalize (S.lt n).isSome = y at *
  go_enter Try.func46, Try.ntmps46
  go_wp2
  go_ret2
  exact ⟨rfl, rfl⟩

/-! ### New -/
def p0N (n : Nat) : Pb := ⟨n + 4, n, n + 1, n + 2, n + 3, fun _ => 0, fun _ _ => none⟩
set_option maxHeartbeats 1000000 in
theorem new_any (w : World) : Calls Try.prog 9 #[] w fun e w' => ∃ p, e = .returned (pv p.b) ∧ IsI w' p ip0 ∧ Fr none' w w' ∧ ∀ k, p.s ip0 k → w.heap.size ≤ k := by
  have m0 := mp_made w
  have m1 := mq_made (w.alloc (.map #[] 0))
  have m2 := ml_made ((w.alloc (.map #[] 0)).alloc (.map #[] 0))
  have m3 := mb_made (((w.alloc (.map #[] 0)).alloc (.map #[] 0)).alloc (.map #[] 0))
  have r4 := row_alloc ((((w.alloc (.map #[] 0)).alloc (.map #[] 0)).alloc (.map #[] 0)).alloc (.map #[] 0)) #[.map (some w.heap.size), .map (some (w.heap.size + 1)), .map (some (w.heap.size + 1 + 1)), .map (some (w.heap.size + 1 + 1 + 1))] 72
  simp only [World.size_alloc] at m1 m2 m3 r4
  have A := fun (W : World) (o : Obj) => (Fr.refl none' W).alloc o
  have n := fun (k : Nat) (h : none' k) => h
  have HI : Hid (IsI (((((w.alloc (.map #[] 0)).alloc (.map #[] 0)).alloc (.map #[] 0)).alloc (.map #[] 0)).alloc (.cells #[.map (some w.heap.size), .map (some (w.heap.size + 1)), .map (some (w.heap.size + 1 + 1)), .map (some (w.heap.size + 1 + 1 + 1))] 72)) (p0N w.heap.size) ip0) :=
    ⟨r4, (((m0.keep (A _ _) (n _)).keep (A _ _) (n _)).keep (A _ _) (n _)).keep (A _ _) (n _), ((m1.keep (A _ _) (n _)).keep (A _ _) (n _)).keep (A _ _) (n _), (m2.keep (A _ _) (n _)).keep (A _ _) (n _), m3.keep (A _ _) (n _), fun n hn => by simp [ip0] at hn, fun n hn => by simp [ip0] at hn, fun _ _ => rfl, fun _ _ _ _ _ _ e => by simp [p0N] at e, by simp only [p0N]; omega, ok_0.gl⟩
  have HF : Hid (Fr none' w (((((w.alloc (.map #[] 0)).alloc (.map #[] 0)).alloc (.map #[] 0)).alloc (.map #[] 0)).alloc (.cells #[.map (some w.heap.size), .map (some (w.heap.size + 1)), .map (some (w.heap.size + 1 + 1)), .map (some (w.heap.size + 1 + 1 + 1))] 72))) := (((((Fr.refl none' w).alloc _).alloc _).alloc _).alloc _).alloc _
  clear m0 m1 m2 m3 r4 A n
  have hmm := @run_makeMap Try.prog
  go_enter Try.func9, Try.ntmps9
  go_wp2
  go_ret
  refine ⟨p0N w.heap.size, rfl, HI.out, HF.out, fun k hk => ?_⟩
  rcases hk with rfl | rfl | rfl | rfl | rfl | ⟨n, hn, _⟩ | ⟨_, _, _, e, _⟩
  · show w.heap.size ≤ w.heap.size + 4; omega
  · exact Nat.le_refl _
  · show w.heap.size ≤ w.heap.size + 1; omega
  · show w.heap.size ≤ w.heap.size + 2; omega
  · show w.heap.size ≤ w.heap.size + 3; omega
  · simp [ip0] at hn
  · simp [p0N] at e

end Go.Proofs.Ytjobdfkfongjaaa
