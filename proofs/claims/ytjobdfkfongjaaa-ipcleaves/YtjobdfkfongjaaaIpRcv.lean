/-
  Package ipc's deliverLit, hear and Recv over the translation. No statement is proved here.
-/
import Derived.Test.YtjobdfkfongjaaaIpSnd
namespace Go.Proofs.Ytjobdfkfongjaaa
open Go.RowKit Go.Maps Go.WideMaps

/-! ### deliverLit -/
set_option maxRecDepth 100000 in
set_option maxHeartbeats 2000000 in
theorem In.lit {w0 w : World} {p0 p : Pb} {S0 S : Ip} {b g : Nat} {t : Int} (h : In w0 p0 S0 b w p S) (k : Tg p S t g) (n : Int) (hn : I64 n) :
    Calls Try.prog 64 #[pv b, .int .i64 n, pv g] w fun e w' => e = .returned (.bool (litB S n)) ∧ In w0 p0 S0 b w' p (litS S n t) ∧ Kp p S p (litS S n t) := by
  have c2 := h.chg.is.c2
  rw [h.eb] at c2
  have hL := h.chg.is.ml.look hn
  cases hx : S.lt n with
  | none =>
    have e1 : litB S n = false := by unfold litB; rw [hx]; rfl
    have e2 : litS S n t = S := by unfold litS; rw [hx]
    rw [e1, e2]
    rw [hx] at hL
    replace hL : (Instr.lookup 70 (.map (some p.l)) (.int .i64 n) true).run Try.prog w = .ok (.tuple #[.int .i64 0, .bool false]) w := hL
    have HH : Hid (In w0 p0 S0 b w p S) := h
    clear h k e1 e2 hx hn
    go_enter Try.func64, Try.ntmps64
    go_wp2
    go_ret
    exact ⟨rfl, HH.out, fun _ _ k => k⟩
  | some x =>
    have e1 : litB S n = true := by unfold litB; rw [hx]; rfl
    have e2 : litS S n t = delS { S with lt := fun k => if k = n then none else S.lt k } t (badM x) := by unfold litS; rw [hx]
    rw [e1, e2]
    rw [hx] at hL
    replace hL : (Instr.lookup 70 (.map (some p.l)) (.int .i64 n) true).run Try.prog w = .ok (.tuple #[.int .i64 x, .bool true]) w := hL
    obtain ⟨h0, h1, hm⟩ := h.ok.lt n x hx
    obtain ⟨w2, hrun, hml, f2⟩ := h.chg.is.ml.drop ⟨h0, h1⟩ hx (f' := fun k => if k = n then none else S.lt k) (fun _ => rfl)
    have C := h.chg.is.setLt f2 hml
    have okL : Ok { S with lt := fun k => if k = n then none else S.lt k } := ⟨h.ok.gl, h.ok.nd, h.ok.mem, h.ok.pl, h.ok.nt, h.ok.bd, fun k c hk => by
      simp only at hk
      split at hk
      · cases hk
      · exact h.ok.lt k c hk, h.ok.ms⟩
    have h2 : In w0 p0 S0 b w2 p { S with lt := fun k => if k = n then none else S.lt k } := h.go C okL
    have k2 := kp_chg C _ _ k
    have HD : Hid (Calls Try.prog 61 #[pv g, msV (badM x)] w2 fun e w' => ∃ v, e = .returned v ∧ In w0 p0 S0 b w' p (delS { S with lt := fun k => if k = n then none else S.lt k } t (badM x)) ∧ Kp p { S with lt := fun k => if k = n then none else S.lt k } p (delS { S with lt := fun k => if k = n then none else S.lt k } t (badM x))) := h2.deliver k2 (may_bad hm)
    have HK : Hid (Kp p S p { S with lt := fun k => if k = n then none else S.lt k }) := kp_chg C
    clear h k e1 e2 hx hn h2 k2 okL C f2 hml h0 h1 hm
    go_enter Try.func64, Try.ntmps64
    go_wp2_with (go_at_call 61; refine (Calls.mono HD.out ?_); rintro e w3 ⟨v, rfl, h3, q3⟩)
    go_ret
    exact ⟨rfl, h3, fun x g' kx => q3 _ _ (HK.out _ _ kx)⟩

/-! ### hear -/
theorem del_thrT {S : Ip} {k t : Int} {m : Ms} {u : Th} (hu : fnd S.L k = some u) : (thrT (delS S t m) k).st = u.st ∧ (thrT (delS S t m) k).ca = u.ca := by
  obtain ⟨v, hv, e1, _, _, _, e2⟩ := del_at (t := t) (m := m) hu
  rw [thrT_of hv]
  exact ⟨e1, e2⟩
set_option maxRecDepth 100000 in
set_option maxHeartbeats 2000000 in
theorem In.hear {w0 w : World} {p0 p : Pb} {S0 S : Ip} {b g gs : Nat} {t s : Int} (h : In w0 p0 S0 b w p S) (k : Tg p S t g) (ks : Tg p S s gs) (hst : (thrT S s).st ≠ 0) (ht : numB t = true) :
    Calls Try.prog 65 #[pv b, pv g, pv gs] w fun e w' => ∃ p', e = .returned (.int .i64 (if (thrT S s).ca then -1 else s)) ∧ In w0 p0 S0 b w' p' (heaS S t s) ∧ Kp p S p' (heaS S t s) := by
  have hu := ks.thrT
  have hm : mayM (thrT S s).sd = true := (h.ok.ms s _ hu).1
  have hla := lea_at hu
  have hL : thrT (leaS S s) s = setP 0 (-1) (thrT S s) := thrT_of hla
  have hP : okP 4 t := okP_an (by have := num_iff.1 ht; omega) (by have := num_iff.1 ht; omega)
  have hD := del_thrT (t := t) (m := (thrT S s).sd) hla
  have HL : Hid (∀ w1 p1, In w0 p0 S0 b w1 p1 (leaS S s) → Tg p1 (leaS S s) s gs → (w1.cell? ⟨gs, 3, none⟩ = some (.int .i64 (thrT S s).sd.l) ∧ w1.cell? ⟨gs, 4, none⟩ = some (.int .i64 (thrT S s).sd.b) ∧ w1.cell? ⟨gs, 5, none⟩ = some (.int .i64 (thrT S s).sd.n) ∧ w1.cell? ⟨gs, 6, none⟩ = some (.int .u32 (thrT S s).sd.w0) ∧ w1.cell? ⟨gs, 7, none⟩ = some (.int .u32 (thrT S s).sd.w1) ∧ w1.cell? ⟨gs, 8, none⟩ = some (.int .u32 (thrT S s).sd.w2) ∧ w1.cell? ⟨gs, 9, none⟩ = some (.int .u32 (thrT S s).sd.w3))) := fun w1 p1 h1 k1 => by
    have r := h1.th k1
    rw [hL] at r
    exact ⟨Row.cell r 3, Row.cell r 4, Row.cell r 5, Row.cell r 6, Row.cell r 7, Row.cell r 8, Row.cell r 9⟩
  have HC : Hid (∀ w1 p1, In w0 p0 S0 b w1 p1 (delS (leaS S s) t (thrT S s).sd) → Tg p1 (delS (leaS S s) t (thrT S s).sd) s gs → w1.cell? ⟨gs, 10, none⟩ = some (.bool (thrT S s).ca)) := fun w1 p1 h1 k1 => by
    have := (h1.th k1).cca
    rw [hD.2] at this
    exact this
  have h0 : (thrT (delS (leaS S s) t (thrT S s).sd) s).st = 0 := hD.1
  unfold heaS
  clear hu hla hL hD
  cases hca : (thrT S s).ca with
  | false =>
    simp only [Bool.false_eq_true, if_false]
    rw [hca] at HC
    generalize (thrT S s).sd = m at *
    go_enter Try.func65, Try.ntmps65
    go_wp2_with (first | (go_at_call 55; refine (h.leave ks hst).mono ?_; rintro e w1 ⟨v1, p1, rfl, h1, q1⟩; obtain ⟨d0, d1, d2, d3, d4, d5, d6⟩ := HL.out w1 p1 h1 (q1 _ _ ks)) | (go_at_call 61; refine (h1.deliver (q1 _ _ k) hm).mono ?_; rintro e w2 ⟨v2, rfl, h2, q2⟩; have c10 := HC.out w2 p1 h2 (q2 _ _ (q1 _ _ ks)); have cs := h2.id (q2 _ _ (q1 _ _ ks)); have ct := h2.id (q2 _ _ (q1 _ _ k))))
    go_ret
    exact ⟨p1, rfl, h2, fun x g' kx => q2 _ _ (q1 _ _ kx)⟩
  | true =>
    simp only [if_true]
    rw [hca] at HC
    generalize (thrT S s).sd = m at *
    go_enter Try.func65, Try.ntmps65
    go_wp2_with (first | (go_at_call 55; refine (h.leave ks hst).mono ?_; rintro e w1 ⟨v1, p1, rfl, h1, q1⟩; obtain ⟨d0, d1, d2, d3, d4, d5, d6⟩ := HL.out w1 p1 h1 (q1 _ _ ks)) | (go_at_call 61; refine (h1.deliver (q1 _ _ k) hm).mono ?_; rintro e w2 ⟨v2, rfl, h2, q2⟩; have c10 := HC.out w2 p1 h2 (q2 _ _ (q1 _ _ ks)); have cs := h2.id (q2 _ _ (q1 _ _ ks)); have ct := h2.id (q2 _ _ (q1 _ _ k))) | (go_at_call 63; refine (answer_any _ _).mono ?_; rintro e w3 ⟨rfl, f3⟩) | (go_at_call 62; refine ((h2.keep0 f3).enter (q2 _ _ (q1 _ _ ks)) h0 hP (by omega)).mono ?_; rintro e w4 ⟨v4, p3, rfl, h4, q4⟩))
    go_ret
    exact ⟨p3, rfl, h4, fun x g' kx => q4 _ _ (q2 _ _ (q1 _ _ kx))⟩

/-! ### Recv -/
section
variable {S : Ip} {ep t : Int} {block : Bool}
theorem rec_bad (h : (numB ep && numB t) = false) : recE S ep t = 1 ∧ recN S ep t = -1 ∧ recG S ep t = false ∧ recS S ep t block = S := by
  have e : recE S ep t = 1 := by unfold recE; rw [h]; rfl
  refine ⟨e, ?_, ?_, ?_⟩
  · unfold recN; rw [if_neg (by omega)]
  · unfold recG; rw [e]; rfl
  · unfold recS; rw [if_neg (by omega)]
theorem rec_wait (h : (numB ep && numB t) = true) (hw : waiB S t = true) : recE S ep t = 150 ∧ recN S ep t = -1 ∧ recG S ep t = false ∧ recS S ep t block = S := by
  have e : recE S ep t = 150 := by unfold recE; rw [h, hw]; rfl
  refine ⟨e, ?_, ?_, ?_⟩
  · unfold recN; rw [if_neg (by omega)]
  · unfold recG; rw [e]; rfl
  · unfold recS; rw [if_neg (by omega)]
theorem rec_e0 (h : (numB ep && numB t) = true) (hw : waiB S t = false) : recE S ep t = 0 := by unfold recE; rw [h, hw]; rfl
theorem rec_lit (e : recE S ep t = 0) (hl : litB (recA S t) (thrT (recA S t) t).nt = true) : recN S ep t = -1 ∧ recG S ep t = true ∧ recS S ep t block = litS (recA S t) (thrT (recA S t) t).nt t := by
  refine ⟨?_, ?_, ?_⟩
  · unfold recN; rw [if_pos e, if_pos hl]
  · unfold recG; rw [e, hl]; rfl
  · unfold recS; rw [if_pos e, if_pos hl]
theorem rec_none (e : recE S ep t = 0) (hl : litB (recA S t) (thrT (recA S t) t).nt = false) (hf : firO (recA S t) 2 ep = none) : recN S ep t = -1 ∧ recG S ep t = false ∧ recS S ep t false = recA S t ∧ recS S ep t true = entS (recA S t) t 3 ep := by
  refine ⟨?_, ?_, ?_, ?_⟩
  · unfold recN; rw [if_pos e, if_neg (by rw [hl]; simp), hf]
  · unfold recG; rw [e, hl, hf]; rfl
  · unfold recS; rw [if_pos e, if_neg (by rw [hl]; simp), hf]; rfl
  · unfold recS; rw [if_pos e, if_neg (by rw [hl]; simp), hf]; rfl
theorem rec_some {s : Int} (e : recE S ep t = 0) (hl : litB (recA S t) (thrT (recA S t) t).nt = false) (hf : firO (recA S t) 2 ep = some s) : recN S ep t = (if (thrT (recA S t) s).ca then -1 else s) ∧ recG S ep t = true ∧ recS S ep t block = heaS (recA S t) t s := by
  refine ⟨?_, ?_, ?_⟩
  · unfold recN; rw [if_pos e, if_neg (by rw [hl]; simp), hf]
  · unfold recG; rw [e, hl, hf]; rfl
  · unfold recS; rw [if_pos e, if_neg (by rw [hl]; simp), hf]
end

set_option maxRecDepth 100000 in
set_option maxHeartbeats 2000000 in
theorem In.recv {w0 w : World} {p0 p : Pb} {S0 S : Ip} {b : Nat} (h : In w0 p0 S0 b w p S) (ep t : Int) (block : Bool) (he64 : I64 ep) (ht64 : I64 t) :
    Calls Try.prog 22 #[pv b, .int .i64 ep, .int .i64 t, .bool block] w fun e w' => ∃ p', e = .returned (.tuple #[.int .i64 (recN S ep t), .bool (recG S ep t), .int .i64 (recE S ep t)]) ∧ In w0 p0 S0 b w' p' (recS S ep t block) ∧ Kp p S p' (recS S ep t block) := by
  have h2 : I64 2 := i64s (by omega) (by omega)
  cases hbd : (numB ep && numB t) with
  | false =>
    obtain ⟨e1, e2, e3, e4⟩ := rec_bad (S := S) (block := block) hbd
    rw [e1, e2, e3, e4]
    clear e1 e2 e3 e4
    cases hn1 : numB ep with
    | false =>
      clear hbd
      go_enter Try.func22, Try.ntmps22
      go_wp2_with (first | (go_at_call 56; refine (isn_any _ _).mono ?_; rintro e w1 ⟨rfl, rfl⟩))
      go_ret3
      exact ⟨p, rfl, h, fun _ _ k => k⟩
    | true =>
      have hn2 : numB t = false := by simpa [hn1] using hbd
      clear hbd
      go_enter Try.func22, Try.ntmps22
      go_wp2_with (first | (go_at_call 56; refine (isn_any _ _).mono ?_; rintro e w1 ⟨rfl, rfl⟩))
      go_ret3
      exact ⟨p, rfl, h, fun _ _ k => k⟩
  | true =>
    obtain ⟨hn1, hn2⟩ : numB ep = true ∧ numB t = true := by simpa using hbd
    cases hw : waiB S t with
    | true =>
      obtain ⟨e1, e2, e3, e4⟩ := rec_wait (S := S) (block := block) hbd hw
      rw [e1, e2, e3, e4]
      clear e1 e2 e3 e4 hbd
      go_enter Try.func22, Try.ntmps22
      go_wp2_with (first | (go_at_call 56; refine (isn_any _ _).mono ?_; rintro e w1 ⟨rfl, rfl⟩) | (go_at_call 54; refine (h.waits ht64).mono ?_; rintro e w2 ⟨rfl, f2⟩))
      go_ret3
      exact ⟨p, rfl, h.keep0 f2, fun _ _ k => k⟩
    | false =>
      have e0 := rec_e0 (S := S) hbd hw
      rw [e0]
      have okA : Ok (recA S t) := ok_recA h.ok hn2
      have hnt : I64 (thrT (recA S t) t).nt := by
        rcases okA.nt t _ (show fnd (recA S t).L t = some (thrT (recA S t) t) by rw [recA_at h.ok hw, recA_thrT h.ok hw]) with e | e
        · rw [e]; exact i64s (by omega) (by omega)
        · exact i64s (by omega) (by omega)
      have h0 : (thrT (recA S t) t).st = 0 := by rw [recA_thrT h.ok hw]; exact thrT_0 h.ok hw
      cases hl : litB (recA S t) (thrT (recA S t) t).nt with
      | true =>
        obtain ⟨e1, e2, e3⟩ := rec_lit (block := block) e0 hl
        rw [e1, e2, e3]
        clear e0 e1 e2 e3 hbd okA h0
        go_enter Try.func22, Try.ntmps22
        go_wp2_with (first | (go_at_call 56; refine (isn_any _ _).mono ?_; rintro e w1 ⟨rfl, rfl⟩) | (go_at_call 54; refine (h.waits ht64).mono ?_; rintro e w2 ⟨rfl, f2⟩) | (go_at_call 26; refine ((h.keep0 f2).forget t).mono ?_; rintro e w3 ⟨p3, rfl, h3, q3⟩) | (go_at_call 60; refine (h3.thread hn2).mono ?_; rintro e w4 ⟨g, p4, rfl, h4x, k4x, q4x⟩; have h4 : In w0 p0 S0 b w4 p4 (recA S t) := h4x; have k4 : Tg p4 (recA S t) t g := k4x; have q4 : Kp p3 (forS S t) p4 (recA S t) := q4x; clear h4x k4x q4x; have cnt := (h4.th k4).cnt) | (go_at_call 64; refine (h4.lit k4 _ hnt).mono ?_; rintro e w5 ⟨rfl, h5, q5⟩))
        go_ret3
        exact ⟨p4, rfl, h5, fun x g' k => q5 _ _ (q4 _ _ (q3 _ _ k))⟩
      | false =>
        have eL : litS (recA S t) (thrT (recA S t) t).nt t = recA S t := by
          unfold litS
          unfold litB at hl
          cases hx : (recA S t).lt (thrT (recA S t) t).nt with
          | none => rfl
          | some x => rw [hx] at hl; cases hl
        cases hf : firO (recA S t) 2 ep with
        | none =>
          obtain ⟨e1, e2, e3, e4⟩ := rec_none e0 hl hf
          rw [e1, e2]
          have hP : okP 3 ep := okP_ep (Or.inr (Or.inl rfl)) hn1
          cases block with
          | false =>
            rw [e3]
            clear e0 e1 e2 e3 e4 hbd okA h0
            have EL : Hid (litS (recA S t) (thrT (recA S t) t).nt t = recA S t) := eL
            clear eL
            go_enter Try.func22, Try.ntmps22
            go_wp2_with (first | (go_at_call 56; refine (isn_any _ _).mono ?_; rintro e w1 ⟨rfl, rfl⟩) | (go_at_call 54; refine (h.waits ht64).mono ?_; rintro e w2 ⟨rfl, f2⟩) | (go_at_call 26; refine ((h.keep0 f2).forget t).mono ?_; rintro e w3 ⟨p3, rfl, h3, q3⟩) | (go_at_call 60; refine (h3.thread hn2).mono ?_; rintro e w4 ⟨g, p4, rfl, h4x, k4x, q4x⟩; have h4 : In w0 p0 S0 b w4 p4 (recA S t) := h4x; have k4 : Tg p4 (recA S t) t g := k4x; have q4 : Kp p3 (forS S t) p4 (recA S t) := q4x; clear h4x k4x q4x; have cnt := (h4.th k4).cnt) | (go_at_call 64; refine (h4.lit k4 _ hnt).mono ?_; rintro e w5 ⟨rfl, h5, q5⟩; rw [EL.out] at h5 q5; have k5 := q5 _ _ k4) | (go_at_call 51; refine (senders_any _ _).mono ?_; rintro e w6 ⟨rfl, f6⟩) | (go_at_call 58; refine ((h5.keep0 f6).first_none h2 he64 hf).mono ?_; rintro e w7 ⟨rfl, f7⟩))
            go_ret3
            exact ⟨p4, rfl, (h5.keep0 f6).keep0 f7, fun x g' k => q5 _ _ (q4 _ _ (q3 _ _ k))⟩
          | true =>
            rw [e4]
            clear e0 e1 e2 e3 e4 hbd okA
            have EL : Hid (litS (recA S t) (thrT (recA S t) t).nt t = recA S t) := eL
            clear eL
            have H0 : Hid ((thrT (recA S t) t).st = 0) := h0
            clear h0
            go_enter Try.func22, Try.ntmps22
            go_wp2_with (first | (go_at_call 56; refine (isn_any _ _).mono ?_; rintro e w1 ⟨rfl, rfl⟩) | (go_at_call 54; refine (h.waits ht64).mono ?_; rintro e w2 ⟨rfl, f2⟩) | (go_at_call 26; refine ((h.keep0 f2).forget t).mono ?_; rintro e w3 ⟨p3, rfl, h3, q3⟩) | (go_at_call 60; refine (h3.thread hn2).mono ?_; rintro e w4 ⟨g, p4, rfl, h4x, k4x, q4x⟩; have h4 : In w0 p0 S0 b w4 p4 (recA S t) := h4x; have k4 : Tg p4 (recA S t) t g := k4x; have q4 : Kp p3 (forS S t) p4 (recA S t) := q4x; clear h4x k4x q4x; have cnt := (h4.th k4).cnt) | (go_at_call 64; refine (h4.lit k4 _ hnt).mono ?_; rintro e w5 ⟨rfl, h5, q5⟩; rw [EL.out] at h5 q5; have k5 := q5 _ _ k4) | (go_at_call 51; refine (senders_any _ _).mono ?_; rintro e w6 ⟨rfl, f6⟩) | (go_at_call 58; refine ((h5.keep0 f6).first_none h2 he64 hf).mono ?_; rintro e w7 ⟨rfl, f7⟩) | (go_at_call 52; refine (receivers_any _ _).mono ?_; rintro e w8 ⟨rfl, f8⟩) | (go_at_call 62; refine ((((h5.keep0 f6).keep0 f7).keep0 f8).enter k5 H0.out hP (by omega)).mono ?_; rintro e w9 ⟨v9, p9, rfl, h9, q9⟩))
            go_ret3
            exact ⟨p9, rfl, h9, fun x g' k => q9 _ _ (q5 _ _ (q4 _ _ (q3 _ _ k)))⟩
        | some s =>
          obtain ⟨e1, e2, e3⟩ := rec_some (block := block) e0 hl hf
          rw [e1, e2, e3]
          have hst : (thrT (recA S t) s).st ≠ 0 := by
            obtain ⟨u, hu, hs, _⟩ := okA.first hf
            rw [thrT_of hu, hs]
            omega
          clear e0 e1 e2 e3 hbd okA h0
          have EL : Hid (litS (recA S t) (thrT (recA S t) t).nt t = recA S t) := eL
          clear eL
          obtain ⟨y, hy⟩ : ∃ y : Int, y = (if (thrT (recA S t) s).ca then -1 else s) := ⟨_, rfl⟩
          rw [← hy]
          have HY : Hid (y = (if (thrT (recA S t) s).ca then -1 else s)) := hy
          clear hy
          go_enter Try.func22, Try.ntmps22
          go_wp2_with (first | (go_at_call 56; refine (isn_any _ _).mono ?_; rintro e w1 ⟨rfl, rfl⟩) | (go_at_call 54; refine (h.waits ht64).mono ?_; rintro e w2 ⟨rfl, f2⟩) | (go_at_call 26; refine ((h.keep0 f2).forget t).mono ?_; rintro e w3 ⟨p3, rfl, h3, q3⟩) | (go_at_call 60; refine (h3.thread hn2).mono ?_; rintro e w4 ⟨g, p4, rfl, h4x, k4x, q4x⟩; have h4 : In w0 p0 S0 b w4 p4 (recA S t) := h4x; have k4 : Tg p4 (recA S t) t g := k4x; have q4 : Kp p3 (forS S t) p4 (recA S t) := q4x; clear h4x k4x q4x; have cnt := (h4.th k4).cnt) | (go_at_call 64; refine (h4.lit k4 _ hnt).mono ?_; rintro e w5 ⟨rfl, h5, q5⟩; rw [EL.out] at h5 q5; have k5 := q5 _ _ k4) | (go_at_call 51; refine (senders_any _ _).mono ?_; rintro e w6 ⟨rfl, f6⟩) | (go_at_call 58; refine ((h5.keep0 f6).first_some h2 he64 hf).mono ?_; rintro e w7 ⟨gs, rfl, f7, ks⟩) | (go_at_call 65; refine (((h5.keep0 f6).keep0 f7).hear k5 ks hst hn2).mono ?_; rintro e w8 ⟨p8, rfl, h8, q8⟩; rw [← HY.out]))
          go_ret3
          exact ⟨p8, rfl, h8, fun x g' k => q8 _ _ (q5 _ _ (q4 _ _ (q3 _ _ k)))⟩

end Go.Proofs.Ytjobdfkfongjaaa
