/-
  Package ipc's listener, Signal, Wait and Reply over the translation. No statement is proved here.
-/
import Derived.Test.YtjobdfkfongjaaaIpRcv
namespace Go.Proofs.Ytjobdfkfongjaaa
open Go.RowKit Go.Maps Go.WideMaps

/-! ### listener -/
set_option maxRecDepth 100000 in
set_option maxHeartbeats 2000000 in
theorem In.listener {w0 w : World} {p0 p : Pb} {S0 S : Ip} {b : Nat} (h : In w0 p0 S0 b w p S) (n : Int) (hn : I64 n) :
    Calls Try.prog 67 #[pv b, .int .i64 n] w fun e w' => e = .returned (ptO p (lisO S n)) ∧ Fr none' w w' := by
  have h5 : I64 5 := i64s (by omega) (by omega)
  unfold lisO
  cases hf : firO S 5 n with
  | some x =>
    have HF : Hid (∀ w1, Fr none' w w1 → Calls Try.prog 58 #[pv b, plV 5 n] w1 fun e w' => e = .returned (pv (p.B x)) ∧ Fr none' w1 w') := fun w1 f1 => ((h.keep0 f1).first_some h5 hn hf).mono (by
      rintro e w' ⟨g, rfl, f, k⟩
      rw [k.eq]
      exact ⟨rfl, f⟩)
    show Calls _ _ _ _ fun e w' => e = .returned (pv (p.B x)) ∧ Fr none' w w'
    clear h hf
    generalize p.B x = gx at *
    go_enter Try.func67, Try.ntmps67
    go_wp2_with (first | (go_at_call 68; refine (listeners_any _ _).mono ?_; rintro e w1 ⟨rfl, f1⟩) | (go_at_call 58; refine (HF.out _ f1).mono ?_; rintro e w2 ⟨rfl, f2⟩))
    go_ret
    exact ⟨rfl, f1.trans f2⟩
  | none =>
    have HF : Hid (∀ w1, Fr none' w w1 → Calls Try.prog 58 #[pv b, plV 5 n] w1 fun e w' => e = .returned (.pointer none) ∧ Fr none' w1 w') := fun w1 f1 => (h.keep0 f1).first_none h5 hn hf
    simp only
    cases hb : S.bd n with
    | none =>
      have HX : Hid (∀ w1, Fr none' w w1 → w1.cell? ⟨b, 3, none⟩ = some (.map (some p.d)) ∧ (Instr.lookup 68 (.map (some p.d)) (.int .i64 n) true).run Try.prog w1 = .ok (.tuple #[.pointer none, .bool false]) w1) := fun w1 f1 => by
        have h1 := h.keep0 f1
        have c3 := h1.chg.is.c3
        rw [h1.eb] at c3
        exact ⟨c3, h1.chg.is.mb.look_none hn (by unfold bdF; rw [hb]; rfl)⟩
      clear h hf hb
      go_enter Try.func67, Try.ntmps67
      go_wp2_with (first | (go_at_call 68; refine (listeners_any _ _).mono ?_; rintro e w1 ⟨rfl, f1⟩) | (go_at_call 58; refine (HF.out _ f1).mono ?_; rintro e w2 ⟨rfl, f2⟩; obtain ⟨c3, hL⟩ := HX.out w2 (f1.trans f2)))
      go_ret
      exact ⟨rfl, f1.trans f2⟩
    | some t =>
      obtain ⟨u, hu, _⟩ := (h.ok.bd n t).1 hb
      have HX : Hid (∀ w1, Fr none' w w1 → w1.cell? ⟨b, 3, none⟩ = some (.map (some p.d)) ∧ (Instr.lookup 68 (.map (some p.d)) (.int .i64 n) true).run Try.prog w1 = .ok (.tuple #[pv (p.B t), .bool true]) w1 ∧ w1.cell? ⟨p.B t, 1, none⟩ = some (.int .i64 (thrT S t).st)) := fun w1 f1 => by
        have h1 := h.keep0 f1
        have c3 := h1.chg.is.c3
        rw [h1.eb] at c3
        have r := (h1.th (tg_of hu)).cst
        exact ⟨c3, h1.chg.is.mb.look_some hn (by unfold bdF; rw [hb]; rfl), r⟩
      simp only
      clear h hf hb hu
      have HE : ptO p (some t) = pv (p.B t) := rfl
      by_cases h3 : (thrT S t).st = 3
      · rw [if_pos h3, HE]
        rw [h3] at HX
        clear h3 HE
        generalize p.B t = gt at *
        go_enter Try.func67, Try.ntmps67
        go_wp2_with (first | (go_at_call 68; refine (listeners_any _ _).mono ?_; rintro e w1 ⟨rfl, f1⟩) | (go_at_call 58; refine (HF.out _ f1).mono ?_; rintro e w2 ⟨rfl, f2⟩; obtain ⟨c3, hL, cs⟩ := HX.out w2 (f1.trans f2)))
        go_ret
        exact ⟨rfl, f1.trans f2⟩
      · rw [if_neg h3]
        have h3' : ((thrT S t).st == 3) = false := by simpa using h3
        clear HE h3
        generalize (thrT S t).st = st at *
        generalize p.B t = gt at *
        go_enter Try.func67, Try.ntmps67
        go_wp2_with (first | (go_at_call 68; refine (listeners_any _ _).mono ?_; rintro e w1 ⟨rfl, f1⟩) | (go_at_call 58; refine (HF.out _ f1).mono ?_; rintro e w2 ⟨rfl, f2⟩; obtain ⟨c3, hL, cs⟩ := HX.out w2 (f1.trans f2)))
        go_ret
        exact ⟨rfl, f1.trans f2⟩

/-! ### Signal -/
theorem sig_e {n x : Int} (h : (numB n && mrkB x) = true) : sigE n x = 0 := by unfold sigE; rw [h]; rfl
set_option maxRecDepth 100000 in
set_option maxHeartbeats 2000000 in
theorem In.signal {w0 w : World} {p0 p : Pb} {S0 S : Ip} {b : Nat} (h : In w0 p0 S0 b w p S) (n x : Int) :
    Calls Try.prog 24 #[pv b, .int .i64 n, .int .i64 x] w fun e w' => ∃ p', e = .returned (.tuple #[.int .i64 (sigN S n x), .int .i64 (sigE n x)]) ∧ In w0 p0 S0 b w' p' (sigS S n x) ∧ Kp p S p' (sigS S n x) := by
  cases hbd : (numB n && mrkB x) with
  | false =>
    have e1 : sigE n x = 1 := by unfold sigE; rw [hbd]; rfl
    have e2 : sigN S n x = -1 := by unfold sigN; rw [if_neg (by omega)]
    have e3 : sigS S n x = S := by unfold sigS; rw [if_neg (by omega)]
    rw [e1, e2, e3]
    clear e1 e2 e3
    cases hn1 : numB n with
    | false =>
      clear hbd
      go_enter Try.func24, Try.ntmps24
      go_wp2_with (first | (go_at_call 56; refine (isn_any _ _).mono ?_; rintro e w1 ⟨rfl, rfl⟩) | (go_at_call 66; refine (ism_any _ _).mono ?_; rintro e w1 ⟨rfl, rfl⟩))
      go_ret2
      exact ⟨p, rfl, h, fun _ _ k => k⟩
    | true =>
      have hn2 : mrkB x = false := by simpa [hn1] using hbd
      clear hbd
      go_enter Try.func24, Try.ntmps24
      go_wp2_with (first | (go_at_call 56; refine (isn_any _ _).mono ?_; rintro e w1 ⟨rfl, rfl⟩) | (go_at_call 66; refine (ism_any _ _).mono ?_; rintro e w1 ⟨rfl, rfl⟩))
      go_ret2
      exact ⟨p, rfl, h, fun _ _ k => k⟩
  | true =>
    obtain ⟨hn1, hn2⟩ : numB n = true ∧ mrkB x = true := by simpa using hbd
    have e0 := sig_e hbd
    have hn64 := num64 hn1
    rw [e0]
    cases hl : lisO S n with
    | none =>
      have e2 : sigN S n x = -1 := by unfold sigN; rw [if_pos e0, hl]; rfl
      have e3 : sigS S n x = { S with lt := fun k => if k = n then some (bits .or .i64 ((S.lt n).getD 0) x) else S.lt k } := by unfold sigS; rw [if_pos e0, hl]
      rw [e2]
      have HL : Hid (Calls Try.prog 67 #[pv b, .int .i64 n] w fun e w' => e = .returned (.pointer none) ∧ Fr none' w w') := by
        have := h.listener n hn64
        rw [hl] at this
        exact this
      have okF : Ok (sigS S n x) := ok_sig h.ok n x
      rw [e3] at okF
      rw [e3]
      have HM : Hid (∀ w1, Fr none' w w1 → w1.cell? ⟨b, 2, none⟩ = some (.map (some p.l)) ∧ (Instr.lookup 70 (.map (some p.l)) (.int .i64 n) false).run Try.prog w1 = .ok (.int .i64 ((S.lt n).getD 0)) w1 ∧ ∃ w2, (Instr.mapUpdate 70 (.map (some p.l)) (.int .i64 n) (.int .i64 (bits .or .i64 ((S.lt n).getD 0) x))).run Try.prog w1 = .ok () w2 ∧ Hid (In w0 p0 S0 b w2 p { S with lt := fun k => if k = n then some (bits .or .i64 ((S.lt n).getD 0) x) else S.lt k } ∧ Kp p S p { S with lt := fun k => if k = n then some (bits .or .i64 ((S.lt n).getD 0) x) else S.lt k })) := fun w1 f1 => by
        have h1 := h.keep0 f1
        have c2 := h1.chg.is.c2
        rw [h1.eb] at c2
        obtain ⟨w2, hrun, hm, f2⟩ := h1.chg.is.ml.store (num_iff.1 hn1) (bits .or .i64 ((S.lt n).getD 0) x) (f' := fun k => if k = n then some (bits .or .i64 ((S.lt n).getD 0) x) else S.lt k) (fun _ => rfl)
        have C := h1.chg.is.setLt f2 hm
        exact ⟨c2, h1.chg.is.ml.look0 hn64, w2, hrun, h1.go C okF, kp_chg C⟩
      clear e0 e2 e3 hbd okF h hl
      generalize (S.lt n).getD 0 = y at *
      go_enter Try.func24, Try.ntmps24
      go_wp2_with (first | (go_at_call 56; refine (isn_any _ _).mono ?_; rintro e w1 ⟨rfl, rfl⟩) | (go_at_call 66; refine (ism_any _ _).mono ?_; rintro e w1 ⟨rfl, rfl⟩) | (go_at_call 67; refine (HL.out).mono ?_; rintro e w2 ⟨rfl, f2⟩; obtain ⟨c2, hL0, w3, hrun, hI⟩ := HM.out w2 f2))
      go_ret2
      exact ⟨p, rfl, hI.out.1, hI.out.2⟩
    | some t =>
      have e2 : sigN S n x = t := by unfold sigN; rw [if_pos e0, hl]; rfl
      have e3 : sigS S n x = delS (leaS S t) t (badM x) := by unfold sigS; rw [if_pos e0, hl]
      rw [e2, e3]
      obtain ⟨u, hu, hus⟩ := lis_at h.ok hl
      have hst : (thrT S t).st ≠ 0 := by rw [thrT_of hu]; exact hus
      have hm : mayM (badM x) = true := may_bad hn2
      have HL : Hid (Calls Try.prog 67 #[pv b, .int .i64 n] w fun e w' => ∃ g, e = .returned (pv g) ∧ Fr none' w w' ∧ Tg p S t g) := (h.listener n hn64).mono (by
        rw [hl]
        rintro e w' ⟨rfl, f⟩
        exact ⟨_, rfl, f, tg_of hu⟩)
      clear e0 e2 e3 hbd hu hus
      go_enter Try.func24, Try.ntmps24
      go_wp2_with (first | (go_at_call 56; refine (isn_any _ _).mono ?_; rintro e w1 ⟨rfl, rfl⟩) | (go_at_call 66; refine (ism_any _ _).mono ?_; rintro e w1 ⟨rfl, rfl⟩) | (go_at_call 67; refine (HL.out).mono ?_; rintro e w2 ⟨g, rfl, f2, k0⟩) | (go_at_call 55; refine ((h.keep0 f2).leave k0 hst).mono ?_; rintro e w5 ⟨v5, p1, rfl, h5, q5⟩) | (go_at_call 61; refine (h5.deliver (m := badM x) (q5 _ _ k0) hm).mono ?_; rintro e w6 ⟨v6, rfl, h6, q6⟩; have cid := h6.id (q6 _ _ (q5 _ _ k0))))
      go_ret2
      exact ⟨p1, rfl, h6, fun x g' k => q6 _ _ (q5 _ _ k)⟩

end Go.Proofs.Ytjobdfkfongjaaa
