/-
  Package ipc's Wait, Reply, Bind, Unbind and Cancel over the translation. No statement is proved here.
-/
import Derived.Test.YtjobdfkfongjaaaIpSig
namespace Go.Proofs.Ytjobdfkfongjaaa
open Go.RowKit Go.Maps Go.WideMaps

/-! ### Wait -/
theorem litB_thr (S : Ip) (n t : Int) : litB (thrS S t) n = litB S n := by unfold litB; rw [thr_lt]
theorem lit_no {S : Ip} {n t : Int} (h : litB S n = false) : litS S n t = S := by
  unfold litS
  unfold litB at h
  cases hx : S.lt n with
  | none => rfl
  | some x => rw [hx] at h; cases h
section
variable {S : Ip} {n t : Int} {block : Bool}
theorem wat_bad (h : (numB n && numB t) = false) : watE S n t = 1 ∧ watG S n t = false ∧ watS S n t block = S := by
  have e : watE S n t = 1 := by unfold watE; rw [h]; rfl
  refine ⟨e, ?_, ?_⟩
  · unfold watG; rw [e]; rfl
  · unfold watS; rw [if_neg (by omega)]
theorem wat_wait (h : (numB n && numB t) = true) (hw : waiB S t = true) : watE S n t = 150 ∧ watG S n t = false ∧ watS S n t block = S := by
  have e : watE S n t = 150 := by unfold watE; rw [h, hw]; rfl
  refine ⟨e, ?_, ?_⟩
  · unfold watG; rw [e]; rfl
  · unfold watS; rw [if_neg (by omega)]
theorem wat_e0 (h : (numB n && numB t) = true) (hw : waiB S t = false) : watE S n t = 0 := by unfold watE; rw [h, hw]; rfl
theorem wat_lit (e : watE S n t = 0) (hl : litB S n = true) : watG S n t = true ∧ watS S n t block = litS (thrS S t) n t := by
  refine ⟨?_, ?_⟩
  · unfold watG; rw [e, hl]; rfl
  · unfold watS; rw [if_pos e, if_pos hl]
theorem wat_no (e : watE S n t = 0) (hl : litB S n = false) : watG S n t = false ∧ watS S n t false = thrS S t ∧ watS S n t true = entS (thrS S t) t 5 n := by
  refine ⟨?_, ?_, ?_⟩
  · unfold watG; rw [e, hl]; rfl
  · unfold watS; rw [if_pos e, if_neg (by rw [hl]; simp)]; rfl
  · unfold watS; rw [if_pos e, if_neg (by rw [hl]; simp)]; rfl
end

set_option maxRecDepth 100000 in
set_option maxHeartbeats 2000000 in
theorem In.wait {w0 w : World} {p0 p : Pb} {S0 S : Ip} {b : Nat} (h : In w0 p0 S0 b w p S) (n t : Int) (block : Bool) (ht64 : I64 t) :
    Calls Try.prog 25 #[pv b, .int .i64 n, .int .i64 t, .bool block] w fun e w' => ∃ p', e = .returned (.tuple #[.bool (watG S n t), .int .i64 (watE S n t)]) ∧ In w0 p0 S0 b w' p' (watS S n t block) ∧ Kp p S p' (watS S n t block) := by
  cases hbd : (numB n && numB t) with
  | false =>
    obtain ⟨e1, e2, e3⟩ := wat_bad (S := S) (block := block) hbd
    rw [e1, e2, e3]
    clear e1 e2 e3
    cases hn1 : numB n with
    | false =>
      clear hbd
      go_enter Try.func25, Try.ntmps25
      go_wp2_with (first | (go_at_call 56; refine (isn_any _ _).mono ?_; rintro e w1 ⟨rfl, rfl⟩))
      go_ret2
      exact ⟨p, rfl, h, fun _ _ k => k⟩
    | true =>
      have hn2 : numB t = false := by simpa [hn1] using hbd
      clear hbd
      go_enter Try.func25, Try.ntmps25
      go_wp2_with (first | (go_at_call 56; refine (isn_any _ _).mono ?_; rintro e w1 ⟨rfl, rfl⟩))
      go_ret2
      exact ⟨p, rfl, h, fun _ _ k => k⟩
  | true =>
    obtain ⟨hn1, hn2⟩ : numB n = true ∧ numB t = true := by simpa using hbd
    have hn64 := num64 hn1
    cases hw : waiB S t with
    | true =>
      obtain ⟨e1, e2, e3⟩ := wat_wait (S := S) (block := block) hbd hw
      rw [e1, e2, e3]
      clear e1 e2 e3 hbd
      go_enter Try.func25, Try.ntmps25
      go_wp2_with (first | (go_at_call 56; refine (isn_any _ _).mono ?_; rintro e w1 ⟨rfl, rfl⟩) | (go_at_call 54; refine (h.waits ht64).mono ?_; rintro e w2 ⟨rfl, f2⟩))
      go_ret2
      exact ⟨p, rfl, h.keep0 f2, fun _ _ k => k⟩
    | false =>
      have e0 := wat_e0 (S := S) hbd hw
      rw [e0]
      have hl' := litB_thr S n t
      cases hl : litB S n with
      | true =>
        rw [hl] at hl'
        obtain ⟨e1, e2⟩ := wat_lit (block := block) e0 hl
        rw [e1, e2]
        clear e0 e1 e2 hbd hl
        go_enter Try.func25, Try.ntmps25
        go_wp2_with (first | (go_at_call 56; refine (isn_any _ _).mono ?_; rintro e w1 ⟨rfl, rfl⟩) | (go_at_call 54; refine (h.waits ht64).mono ?_; rintro e w2 ⟨rfl, f2⟩) | (go_at_call 60; refine ((h.keep0 f2).thread hn2).mono ?_; rintro e w4 ⟨g, p4, rfl, h4, k4, q4⟩) | (go_at_call 64; refine (h4.lit k4 _ hn64).mono ?_; rintro e w5 ⟨rfl, h5, q5⟩))
        go_ret2
        exact ⟨p4, rfl, h5, fun x g' k => q5 _ _ (q4 _ _ k)⟩
      | false =>
        rw [hl] at hl'
        obtain ⟨e1, e2, e3⟩ := wat_no e0 hl
        rw [e1]
        have EL : Hid (litS (thrS S t) n t = thrS S t) := lit_no hl'
        cases block with
        | false =>
          rw [e2]
          clear e0 e1 e2 e3 hbd hl
          go_enter Try.func25, Try.ntmps25
          go_wp2_with (first | (go_at_call 56; refine (isn_any _ _).mono ?_; rintro e w1 ⟨rfl, rfl⟩) | (go_at_call 54; refine (h.waits ht64).mono ?_; rintro e w2 ⟨rfl, f2⟩) | (go_at_call 60; refine ((h.keep0 f2).thread hn2).mono ?_; rintro e w4 ⟨g, p4, rfl, h4, k4, q4⟩) | (go_at_call 64; refine (h4.lit k4 _ hn64).mono ?_; rintro e w5 ⟨rfl, h5, q5⟩; rw [EL.out] at h5 q5; have k5 := q5 _ _ k4))
          go_ret2
          exact ⟨p4, rfl, h5, fun x g' k => q5 _ _ (q4 _ _ k)⟩
        | true =>
          rw [e3]
          have H0 : Hid ((thrT (thrS S t) t).st = 0) := by show (thrT (thrS S t) t).st = 0; rw [thrT_of (thr_at S t)]; exact thrT_0 h.ok hw
          have hP : okP 5 n := okP_ep (Or.inr (Or.inr rfl)) hn1
          clear e0 e1 e2 e3 hbd hl
          go_enter Try.func25, Try.ntmps25
          go_wp2_with (first | (go_at_call 56; refine (isn_any _ _).mono ?_; rintro e w1 ⟨rfl, rfl⟩) | (go_at_call 54; refine (h.waits ht64).mono ?_; rintro e w2 ⟨rfl, f2⟩) | (go_at_call 60; refine ((h.keep0 f2).thread hn2).mono ?_; rintro e w4 ⟨g, p4, rfl, h4, k4, q4⟩) | (go_at_call 64; refine (h4.lit k4 _ hn64).mono ?_; rintro e w5 ⟨rfl, h5, q5⟩; rw [EL.out] at h5 q5; have k5 := q5 _ _ k4) | (go_at_call 68; refine (listeners_any _ _).mono ?_; rintro e w6 ⟨rfl, f6⟩) | (go_at_call 62; refine ((h5.keep0 f6).enter k5 H0.out hP (by omega)).mono ?_; rintro e w7 ⟨v7, p7, rfl, h7, q7⟩))
          go_ret2
          exact ⟨p7, rfl, h7, fun x g' k => q7 _ _ (q5 _ _ (q4 _ _ k))⟩

/-! ### Reply -/
/-- A block that none of an Ipc's is, turned. -/
theorem In.off {w0 w w' : World} {p0 p : Pb} {S0 S : Ip} {b k : Nat} (h : In w0 p0 S0 b w p S) (hk : ¬ p.s S k) (f : Fr (at' k) w w') (hs : w0.heap.size ≤ k ∨ p0.s S0 k) : In w0 p0 S0 b w' p S :=
  ⟨⟨h.chg.is.keep f (fun j hj e => hk (by rw [← (e : j = k)]; exact hj)), ⟨f.os.trans h.chg.fr.os, f.tape.trans h.chg.fr.tape, f.output.trans h.chg.fr.output, Nat.le_trans h.chg.fr.size f.size, fun i hi hn => (f.block i (Nat.lt_of_lt_of_le hi h.chg.fr.size) (fun e => by
    have e' : i = k := e
    rcases hs with hs | hs
    · omega
    · exact hn (by rw [e']; exact hs))).trans (h.chg.fr.block i hi hn)⟩, h.chg.new, h.chg.eb, h.chg.eB, h.chg.kp⟩, h.ok, h.eb⟩
set_option maxRecDepth 100000 in
set_option maxHeartbeats 2000000 in
theorem In.reply {w0 w : World} {p0 p : Pb} {S0 S : Ip} {b : Nat} (h : In w0 p0 S0 b w p S) (t : Int) (m : Ms) :
    Calls Try.prog 23 #[pv b, .int .i64 t, msV m] w fun e w' => ∃ p', e = .returned (.tuple #[.int .i64 (repN S t m), .int .i64 (repE S t m)]) ∧ In w0 p0 S0 b w' p' (repS S t m) ∧ Kp p S p' (repS S t m) := by
  have f0 := (Fr.refl none' w).alloc (.cells (msA m) 36)
  have hW := (h.keep0 f0).self
  have rb := row_alloc w (msA m) 36
  have hnb : ¬ p.s S w.heap.size := fun hk => by have := h.chg.is.lt _ hk; omega
  dsimp only [msA] at f0 hW rb
  cases hbd : (numB t && mayM m) with
  | false =>
    have e1 : repE S t m = 1 := by unfold repE; rw [hbd]; rfl
    have e2 : repN S t m = -1 := by unfold repN; rw [if_neg (by omega)]
    have e3 : repS S t m = S := by unfold repS; rw [if_neg (by omega)]
    rw [e1, e2, e3]
    clear e1 e2 e3 rb hnb
    cases hn1 : numB t with
    | false =>
      clear hbd
      go_enter Try.func23, Try.ntmps23
      go_wp2_with (first | (go_at_call 56; refine (isn_any _ _).mono ?_; rintro e w1 ⟨rfl, rfl⟩))
      go_ret2
      exact ⟨p, rfl, h.keep0 f0, fun _ _ k => k⟩
    | true =>
      have hn2 : mayM m = false := by simpa [hn1] using hbd
      clear hbd
      go_enter Try.func23, Try.ntmps23
      go_wp2_with (first | (go_at_call 56; refine (isn_any _ _).mono ?_; rintro e w1 ⟨rfl, rfl⟩) | (go_at_call 57; refine (may_any m _).mono ?_; rintro e w1 ⟨rfl, f1⟩))
      go_ret2
      exact ⟨p, rfl, (h.keep0 f0).keep0 f1, fun _ _ k => k⟩
  | true =>
    obtain ⟨hn1, hm⟩ : numB t = true ∧ mayM m = true := by simpa using hbd
    cases hc : calO S t with
    | none =>
      have e1 : repE S t m = 161 := by unfold repE; rw [hbd, hc]; rfl
      have e2 : repN S t m = -1 := by unfold repN; rw [if_neg (by omega)]
      have e3 : repS S t m = S := by unfold repS; rw [if_neg (by omega)]
      rw [e1, e2, e3]
      clear e1 e2 e3 rb hnb hbd
      go_enter Try.func23, Try.ntmps23
      go_wp2_with (first | (go_at_call 56; refine (isn_any _ _).mono ?_; rintro e w1 ⟨rfl, rfl⟩) | (go_at_call 57; refine (may_any m _).mono ?_; rintro e w1 ⟨rfl, f1⟩) | (go_at_call 49; refine ((hW.keep0 f1).caller_none hc).mono ?_; rintro e w2 ⟨rfl, f2⟩))
      go_ret2
      exact ⟨p, rfl, ((h.keep0 f0).keep0 f1).keep0 f2, fun _ _ k => k⟩
    | some c =>
      have e1 : repE S t m = 0 := by unfold repE; rw [hbd, hc]; rfl
      have e2 : repN S t m = c := by unfold repN; rw [if_pos e1, hc]; rfl
      have e3 : repS S t m = delS (leaS S c) c { m with b := 0 } := by unfold repS; rw [if_pos e1, hc]
      rw [e1, e2, e3]
      have hm2 : mayM { m with b := 0 } = true := by
        unfold mayM at hm ⊢
        simp only [Bool.and_eq_true] at hm ⊢
        exact ⟨hm.1, by decide, hm.2.2⟩
      have hst : (thrT S c).st ≠ 0 := by
        obtain ⟨u, hu, hs, _⟩ := h.ok.first (calO_fir hc).2
        rw [thrT_of hu, hs]
        omega
      have HS : Hid ((w.alloc (.cells #[.int .i64 m.l, .int .i64 m.b, .int .i64 m.n, .int .u32 m.w0, .int .u32 m.w1, .int .u32 m.w2, .int .u32 m.w3] 36)).heap.size ≤ w.heap.size → False) := fun e => by rw [World.size_alloc] at e; omega
      clear e1 e2 e3 hbd
      go_enter Try.func23, Try.ntmps23
      go_wp2_with (first | (go_at_call 56; refine (isn_any _ _).mono ?_; rintro e w1 ⟨rfl, rfl⟩) | (go_at_call 57; refine (may_any m _).mono ?_; rintro e w1 ⟨rfl, f1⟩) | (go_at_call 49; refine ((hW.keep0 f1).caller_some hc).mono ?_; rintro e w2 ⟨g, rfl, f2, k0⟩) | (go_at_call 55; refine (((hW.keep0 f1).keep0 f2).leave k0 hst).mono ?_; rintro e w5 ⟨v5, p1, rfl, h5, q5⟩; have rb5 := h5.row rb hnb; obtain ⟨d0, d1, d2, d3, d4, d5, d6⟩ := box7 rb5; have z1 := rb5.frozen 1; have h5x := ((h.self.keep0 f0).join h5).off (k := w.heap.size) (fun hk => (h5.chg.new _ hk).elim hnb (fun e => HS.out e)) (fr_set w5 w.heap.size 1 (.int .i64 0) (Fr.refl _ _)) (Or.inl (Nat.le_refl _)); clear rb5) | (go_at_call 61; refine (h5x.deliver (m := { m with b := 0 }) (q5 _ _ k0) hm2).mono ?_; rintro e w6 ⟨v6, rfl, h6, q6⟩; have cid := h6.id (q6 _ _ (q5 _ _ k0))))
      go_ret2
      exact ⟨p1, rfl, h.join h6, fun x g' k => q6 _ _ (q5 _ _ k)⟩

/-! ### Bind -/
theorem MB.moved {w w' : World} {b : Nat} {f : Int → Option Nat} (h : MB w b f) (e : w'.heap[b]? = w.heap[b]?) : MB w' b f := by
  obtain ⟨K, ⟨D, ⟨es, clock, hb, F, hn, hD⟩, hM⟩, r⟩ := h
  exact ⟨K, ⟨D, ⟨es, clock, e.trans hb, F, hn, hD⟩, hM⟩, r⟩
theorem MB.entry {w : World} {b : Nat} {f : Int → Option Nat} (h : MB w b f) {k : Int} (hk : 0 ≤ k ∧ k < 1024) (hf : f k = none) :
    ∃ (v0 : Value) (st : Nat) (w1 : World), (Instr.mapEntry 68 (.map (some b)) (.int .i64 k)).run Try.prog w = .ok (.tuple #[v0, goInt st]) w1 ∧ Fr (at' b) w w1 ∧
      ∀ (w2 : World) (g : Nat), w2.heap[b]? = w1.heap[b]? → ∃ w3, (Instr.entryStore 68 (.map (some b)) (goInt st) (pv g)).run Try.prog w2 = .ok () w3 ∧ Fr (at' b) w2 w3 ∧ MB w3 b (fun j => if k = j then some g else f j) := by
  have h64 : I64 k := ⟨by omega, by omega⟩
  have hlt := h.lt
  have hst := fun g => h.store hk hf g (f' := fun j => if k = j then some g else f j) (fun _ => rfl)
  obtain ⟨K, ⟨D, h, _⟩, _⟩ := h
  obtain ⟨v0, st, o1, g1, g2, g3⟩ := entry_own law3 Try.underlying68 zeroP h (key3 h64)
  refine ⟨v0, st, _, g1, fr_block _ _ _, fun w2 g e => ?_⟩
  rw [block_same hlt] at e
  obtain ⟨o2, r1, r2⟩ := g3 w2 (pv g) e
  obtain ⟨w', q1, q2, _⟩ := hst g
  rw [r2] at q1
  obtain rfl : ChangeMaps.setBlock w b o2 = w' := by simpa using q1
  have hlt2 : b < w2.heap.size := (Array.getElem?_eq_some_iff.1 e).1
  exact ⟨_, r1, fr_block _ _ _, q2.moved ((block_same hlt2 _).trans (block_same hlt _).symm)⟩

set_option maxRecDepth 100000 in
set_option maxHeartbeats 2000000 in
theorem In.bind {w0 w : World} {p0 p : Pb} {S0 S : Ip} {b : Nat} (h : In w0 p0 S0 b w p S) (n t : Int) :
    Calls Try.prog 27 #[pv b, .int .i64 n, .int .i64 t] w fun e w' => ∃ p', e = .returned (.int .i64 (binE S n t)) ∧ In w0 p0 S0 b w' p' (binS S n t) ∧ Kp p S p' (binS S n t) := by
  have h5 : I64 5 := i64s (by omega) (by omega)
  cases hbd : (numB n && numB t) with
  | false =>
    have e1 : binE S n t = 1 := by unfold binE; rw [hbd]; rfl
    have e2 : binS S n t = S := by unfold binS; rw [hbd]; rfl
    rw [e1, e2]
    clear e1 e2
    cases hn1 : numB n with
    | false =>
      clear hbd
      go_enter Try.func27, Try.ntmps27
      go_wp2_with (first | (go_at_call 56; refine (isn_any _ _).mono ?_; rintro e w1 ⟨rfl, rfl⟩))
      go_ret
      exact ⟨p, rfl, h, fun _ _ k => k⟩
    | true =>
      have hn2 : numB t = false := by simpa [hn1] using hbd
      clear hbd
      go_enter Try.func27, Try.ntmps27
      go_wp2_with (first | (go_at_call 56; refine (isn_any _ _).mono ?_; rintro e w1 ⟨rfl, rfl⟩))
      go_ret
      exact ⟨p, rfl, h, fun _ _ k => k⟩
  | true =>
    obtain ⟨hn1, hn2⟩ : numB n = true ∧ numB t = true := by simpa using hbd
    have hn64 := num64 hn1
    have eT : thrT (thrS S t) t = thrT S t := thrT_of (thr_at S t)
    cases hbn : S.bd n with
    | some y =>
      have e1 : binE S n t = 130 := by unfold binE; rw [if_pos hbd, hbn]; rfl
      have e2 : binS S n t = thrS S t := by unfold binS; rw [if_pos hbd, if_neg (by omega)]
      rw [e1, e2]
      have HX : Hid (∀ w1 p1, In w0 p0 S0 b w1 p1 (thrS S t) → w1.cell? ⟨b, 3, none⟩ = some (.map (some p1.d)) ∧ (Instr.lookup 68 (.map (some p1.d)) (.int .i64 n) true).run Try.prog w1 = .ok (.tuple #[pv (p1.B y), .bool true]) w1) := fun w1 p1 h1 => by
        have c3 := h1.chg.is.c3
        rw [h1.eb] at c3
        exact ⟨c3, h1.chg.is.mb.look_some hn64 (by unfold bdF; rw [thr_bd, hbn]; rfl)⟩
      clear e1 e2 hbd hbn eT
      go_enter Try.func27, Try.ntmps27
      go_wp2_with (first | (go_at_call 56; refine (isn_any _ _).mono ?_; rintro e w1 ⟨rfl, rfl⟩) | (go_at_call 60; refine (h.thread hn2).mono ?_; rintro e w4 ⟨g, p4, rfl, h4, k4, q4⟩; have cnt := (h4.th k4).cnt; obtain ⟨c3, hL⟩ := HX.out w4 p4 h4))
      go_ret
      exact ⟨p4, rfl, h4, q4⟩
    | none =>
      have HX : Hid (∀ w1 p1, In w0 p0 S0 b w1 p1 (thrS S t) → w1.cell? ⟨b, 3, none⟩ = some (.map (some p1.d)) ∧ (Instr.lookup 68 (.map (some p1.d)) (.int .i64 n) true).run Try.prog w1 = .ok (.tuple #[.pointer none, .bool false]) w1) := fun w1 p1 h1 => by
        have c3 := h1.chg.is.c3
        rw [h1.eb] at c3
        exact ⟨c3, h1.chg.is.mb.look_none hn64 (by unfold bdF; rw [thr_bd, hbn]; rfl)⟩
      by_cases hnt : (thrT S t).nt = -1
      · have hnt' : ((thrT (thrS S t) t).nt != -1) = false := by rw [eT, hnt]; rfl
        have hq : (thrS S t).q = S.q := thr_q S t
        cases hf' : firO S 5 n with
        | some y =>
          have hf : firO (thrS S t) 5 n = some y := by unfold firO; rw [hq]; exact hf'
          have e1 : binE S n t = 130 := by unfold binE; rw [if_pos hbd, hbn, hnt, hf']; rfl
          have e2 : binS S n t = thrS S t := by unfold binS; rw [if_pos hbd, if_neg (by omega)]
          rw [e1, e2]
          clear e1 e2 hbd hbn eT hf' hq hnt
          go_enter Try.func27, Try.ntmps27
          go_wp2_with (first | (go_at_call 56; refine (isn_any _ _).mono ?_; rintro e w1 ⟨rfl, rfl⟩) | (go_at_call 60; refine (h.thread hn2).mono ?_; rintro e w4 ⟨g, p4, rfl, h4, k4, q4⟩; have cnt := (h4.th k4).cnt; obtain ⟨c3, hL⟩ := HX.out w4 p4 h4) | (go_at_call 68; refine (listeners_any _ _).mono ?_; rintro e w6 ⟨rfl, f6⟩) | (go_at_call 58; refine ((h4.keep0 f6).first_some h5 hn64 hf).mono ?_; rintro e w7 ⟨g7, rfl, f7, k7⟩))
          go_ret
          exact ⟨p4, rfl, (h4.keep0 f6).keep0 f7, q4⟩
        | none =>
          have hf : firO (thrS S t) 5 n = none := by unfold firO; rw [hq]; exact hf'
          have e1 : binE S n t = 0 := by unfold binE; rw [if_pos hbd, hbn, hnt, hf']; rfl
          have e2 : binS S n t = { thrS S t with L := upd (thrS S t).L t (setN n), bd := fun k => if k = n then some t else S.bd k } := by unfold binS; rw [if_pos hbd, if_pos e1]
          have okB := ok_bin h.ok n t
          rw [e2] at okB
          rw [e1, e2]
          have HB : Hid (∀ w1 p1 g, In w0 p0 S0 b w1 p1 (thrS S t) → Tg p1 (thrS S t) t g → ∃ v0 st w8, (Instr.mapEntry 68 (.map (some p1.d)) (.int .i64 n)).run Try.prog w1 = .ok (.tuple #[v0, .int .i64 (st : Nat)]) w8 ∧ ∃ w9, (Instr.entryStore 68 (.map (some p1.d)) (.int .i64 (st : Nat)) (pv g)).run Try.prog w8 = .ok () w9 ∧ w9.cell? ⟨g, 19, none⟩ = some (.int .i64 (thrT (thrS S t) t).nt) ∧ w9.frozen? ⟨g, 19, none⟩ = false ∧ Hid (In w0 p0 S0 b (w9.setCell ⟨g, 19, none⟩ (.int .i64 n)) p1 { thrS S t with L := upd (thrS S t).L t (setN n), bd := fun k => if k = n then some t else S.bd k } ∧ Kp p1 (thrS S t) p1 { thrS S t with L := upd (thrS S t).L t (setN n), bd := fun k => if k = n then some t else S.bd k })) := fun w1 p1 g h1 k1 => by
            obtain ⟨v0, st, w8, g1, f1, g2⟩ := h1.chg.is.mb.entry (num_iff.1 hn1) (by unfold bdF; rw [thr_bd, hbn]; rfl)
            obtain ⟨w9, r1, f2, m9⟩ := g2 w8 g rfl
            have C1 := h1.chg.is.setBd (f := fun k => if k = n then some t else S.bd k) (f1.trans f2) (m9.congr fun k => by
              unfold bdF
              rw [thr_bd]
              by_cases e : n = k
              · subst e
                rw [if_pos rfl, if_pos rfl]
                show some g = some (p1.B t)
                rw [k1.eq]
              · rw [if_neg e, if_neg (fun e' => e e'.symm)])
            have r9 := C1.is.look (k := t) (t := thrT (thrS S t) t) k1.thrT
            rw [k1.eq] at r9
            have C2 := C1.is.setTk (k := t) (t := thrT (thrS S t) t) k1.thrT (f := setN n) (fun _ => rfl) (w' := w9.setCell ⟨g, 19, none⟩ (.int .i64 n)) (by rw [k1.eq]; exact fr_set _ _ _ _ (Fr.refl _ _)) (by rw [k1.eq]; exact r9.setN n)
            exact ⟨v0, st, w8, g1, w9, r1, r9.cnt, r9.frozen 19, h1.go (C1.trans C2) okB, kp_chg (C1.trans C2)⟩
          clear e1 e2 hbd hbn eT hf' hq hnt okB
          go_enter Try.func27, Try.ntmps27
          go_wp2_with (first | (go_at_call 56; refine (isn_any _ _).mono ?_; rintro e w1 ⟨rfl, rfl⟩) | (go_at_call 60; refine (h.thread hn2).mono ?_; rintro e w4 ⟨g, p4, rfl, h4, k4, q4⟩; have cnt := (h4.th k4).cnt; obtain ⟨c3, hL⟩ := HX.out w4 p4 h4) | (go_at_call 68; refine (listeners_any _ _).mono ?_; rintro e w6 ⟨rfl, f6⟩) | (go_at_call 58; refine ((h4.keep0 f6).first_none h5 hn64 hf).mono ?_; rintro e w7 ⟨rfl, f7⟩; have h7 := (h4.keep0 f6).keep0 f7; obtain ⟨c37, _⟩ := HX.out w7 p4 h7; obtain ⟨v0, st, w8, hme, w9, hes, c9, z9, H9⟩ := HB.out w7 p4 g h7 k4))
          go_ret
          exact ⟨p4, rfl, H9.out.1, fun x g' k => H9.out.2 _ _ (q4 _ _ k)⟩
      · have hnt' : ((thrT (thrS S t) t).nt != -1) = true := by rw [eT]; simpa using hnt
        have e1 : binE S n t = 130 := by
          unfold binE
          rw [if_pos hbd, hbn]
          have : ((thrT S t).nt == -1) = false := by simpa using hnt
          rw [this]
          rfl
        have e2 : binS S n t = thrS S t := by unfold binS; rw [if_pos hbd, if_neg (by omega)]
        rw [e1, e2]
        clear e1 e2 hbd hbn eT hnt
        go_enter Try.func27, Try.ntmps27
        go_wp2_with (first | (go_at_call 56; refine (isn_any _ _).mono ?_; rintro e w1 ⟨rfl, rfl⟩) | (go_at_call 60; refine (h.thread hn2).mono ?_; rintro e w4 ⟨g, p4, rfl, h4, k4, q4⟩; have cnt := (h4.th k4).cnt; obtain ⟨c3, hL⟩ := HX.out w4 p4 h4))
        go_ret
        exact ⟨p4, rfl, h4, q4⟩

end Go.Proofs.Ytjobdfkfongjaaa
