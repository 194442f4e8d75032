/-
  GicServes over the translation: whatever priorities came in, the law returns true, and nothing old turns. No statement is proved here.
-/
import Derived.Test.YtcenojdcmmflaaaGicActs
import Derived.Deep.CutBlock
import Derived.Deep.CutRange
namespace Go.Proofs.Ytcenojdcmmflaaa
open Go.RowKit

theorem wrap_small {n : Int} (h0 : -9223372036854775808 ≤ n) (h1 : n ≤ 9223372036854775807) : IntKind.i64.wrap n = n := by
  simp only [IntKind.wrap, IntKind.bits, IntKind.signed]
  simp
  omega

/-- How many of the first n are pending. -/
def cntP (T : Nat → Li) : Nat → Nat
  | 0 => 0
  | k + 1 => cntP T k + (if (T k).pe then 1 else 0)

theorem cntP_zero {T : Nat → Li} {n : Nat} (h : cntP T n = 0) : ∀ j, j < n → (T j).pe = false := by
  induction n with
  | zero => intro j hj; omega
  | succ k ih =>
    intro j hj
    simp only [cntP] at h
    have h1 : cntP T k = 0 := by omega
    by_cases e : j = k
    · subst e
      cases hp : (T j).pe with
      | false => rfl
      | true => rw [hp] at h; simp at h
    · exact ih h1 j (by omega)

theorem cntP_pos {T : Nat → Li} {n : Nat} (h : 0 < cntP T n) : ∃ j, j < n ∧ (T j).pe = true := by
  induction n with
  | zero => simp [cntP] at h
  | succ k ih =>
    cases hp : (T k).pe with
    | true => exact ⟨k, by omega, hp⟩
    | false =>
      simp only [cntP, hp] at h
      obtain ⟨j, hj, h'⟩ := ih (by simpa using h)
      exact ⟨j, by omega, h'⟩

theorem cntP_upd_ge {T : Nat → Li} {q : Nat} {l : Li} {n : Nat} (h : n ≤ q) : cntP (upd T q l) n = cntP T n := by
  induction n with
  | zero => rfl
  | succ k ih => simp only [cntP]; rw [ih (by omega), upd_other _ _ (by omega)]

theorem cntP_upd {T : Nat → Li} {q : Nat} {l : Li} {n : Nat} (hq : q < n) (hp : (T q).pe = true) (hl : l.pe = false) : cntP (upd T q l) n + 1 = cntP T n := by
  induction n with
  | zero => omega
  | succ k ih =>
    simp only [cntP]
    by_cases e : q = k
    · subst e
      rw [cntP_upd_ge (Nat.le_refl _), upd_same, hp, hl]; simp
    · rw [upd_other _ _ (fun h => e h.symm)]
      have := ih (by omega)
      omega

theorem cntP_all {T : Nat → Li} {n : Nat} (h : ∀ j, j < n → (T j).pe = true) : cntP T n = n := by
  induction n with
  | zero => rfl
  | succ k ih => simp only [cntP]; rw [ih (fun j hj => h j (by omega)), h k (by omega)]; simp

/-- The first n lines are enabled, none is active, the others are not enabled. -/
structure Laid (T : Nat → Li) (n : Nat) : Prop where
  line : ∀ j, j < 32 → (T j).s = 256 ∧ 0 ≤ (T j).p ∧ (T j).p ≤ 255
  yes : ∀ j, j < n → (T j).en = true
  no : ∀ j, n ≤ j → (T j).en = false

theorem laid_zero : Laid (fun _ => zi) 0 := ⟨fun _ _ => by simp [zi], fun j hj => by omega, fun _ _ => rfl⟩

theorem Laid.next {T : Nat → Li} {n : Nat} (h : Laid T n) (hn : n < 32) {p : Int} (hp : 0 ≤ p ∧ p ≤ 255) : Laid (upd T n ⟨p, (T n).s, true, true⟩) (n + 1) := by
  refine ⟨fun j hj => ?_, fun j hj => ?_, fun j hj => ?_⟩
  · by_cases e : j = n
    · subst e; rw [upd_same]; exact ⟨(h.line j hj).1, hp⟩
    · rw [upd_other _ _ e]; exact h.line j hj
  · by_cases e : j = n
    · subst e; rw [upd_same]
    · rw [upd_other _ _ e]; exact h.yes j (by omega)
  · rw [upd_other _ _ (by omega)]; exact h.no j (by omega)

theorem Laid.run {T : Nat → Li} {n : Nat} (h : Laid T n) : bound T 256 = 256 := by
  have : Go.Proofs.Ytcenojdcmmflaaa.run T = 256 := run_none (fun j hj => by simp [act, (h.line j hj).1])
  unfold bound; omega

theorem Laid.may {T : Nat → Li} {n : Nat} (h : Laid T n) {j : Nat} (hj : j < 32) : Go.Proofs.Ytcenojdcmmflaaa.may (bound T 256) (T j) = true ↔ j < n ∧ (T j).pe = true := by
  rw [h.run, may_iff]
  have hl := h.line j hj
  constructor
  · rintro ⟨a, b, _, _⟩
    refine ⟨?_, b⟩
    rcases Nat.lt_or_ge j n with h' | h'
    · exact h'
    · rw [h.no j h'] at a; exact absurd a (by simp)
  · rintro ⟨a, b⟩; exact ⟨h.yes j a, b, hl.1, by omega⟩

/-- So many are left, all of them behind what was served last. -/
structure Left (T : Nat → Li) (n c : Nat) (last before : Int) : Prop where
  laid : Laid T n
  cnt : cntP T n = c
  behind : ∀ j, j < n → (T j).pe = true → last < (T j).p ∨ (last = (T j).p ∧ before < (j : Int))

theorem Left.none {T : Nat → Li} {n : Nat} {last before : Int} (h : Left T n 0 last before) : nextO T 256 = false := by
  cases ho : nextO T 256 with
  | false => rfl
  | true =>
    have := (h.laid.may (next_lt ho)).mp (next_may ho)
    rw [cntP_zero h.cnt _ this.1] at this
    exact absurd this.2 (by simp)

theorem Left.some {T : Nat → Li} {n c : Nat} {last before : Int} (h : Left T n (c + 1) last before) (hn : n ≤ 32) :
    nextO T 256 = true ∧ nextL T 256 < n ∧ (last < (T (nextL T 256)).p ∨ (last = (T (nextL T 256)).p ∧ before < (nextL T 256 : Int))) ∧ (0 ≤ (T (nextL T 256)).p ∧ (T (nextL T 256)).p ≤ 255) ∧
      Left (upd T (nextL T 256) ⟨(T (nextL T 256)).p, 256, (T (nextL T 256)).en, false⟩) n c (T (nextL T 256)).p (nextL T 256 : Int) := by
  have ho : nextO T 256 = true := by
    cases ho : nextO T 256 with
    | true => rfl
    | false =>
      obtain ⟨j, hj, hp⟩ := cntP_pos (T := T) (n := n) (by rw [h.cnt]; omega)
      have := next_none ho (j := j) (by omega)
      rw [(h.laid.may (by omega)).mpr ⟨hj, hp⟩] at this
      exact absurd this (by simp)
  have hq := (h.laid.may (next_lt ho)).mp (next_may ho)
  have hl := h.laid.line _ (next_lt ho)
  refine ⟨ho, hq.1, h.behind _ hq.1 hq.2, hl.2, ⟨fun j hj => ?_, fun j hj => ?_, fun j hj => ?_⟩, ?_, fun j hj hp => ?_⟩
  · by_cases e : j = nextL T 256
    · rw [e, upd_same]; exact ⟨rfl, hl.2⟩
    · rw [upd_other _ _ e]; exact h.laid.line j hj
  · by_cases e : j = nextL T 256
    · rw [e, upd_same]; exact h.laid.yes _ hq.1
    · rw [upd_other _ _ e]; exact h.laid.yes j hj
  · rw [upd_other _ _ (by omega)]; exact h.laid.no j hj
  · have := cntP_upd (T := T) (l := ⟨(T (nextL T 256)).p, 256, (T (nextL T 256)).en, false⟩) hq.1 hq.2 rfl
    have := h.cnt
    omega
  · by_cases e : j = nextL T 256
    · rw [e, upd_same] at hp; exact absurd hp (by simp)
    · rw [upd_other _ _ e] at hp ⊢
      have := next_least ho (j := j) (by omega) ((h.laid.may (by omega)).mpr ⟨hj, hp⟩)
      omega

set_option maxRecDepth 100000 in
set_option maxHeartbeats 4000000 in
theorem serves_row (a0 : Option Addr) (len cap : Nat) (w : World) (hl : len ≤ 9223372036854775807) (ha : Nums w a0 len) :
    Calls Try.prog 5 #[.slice a0 len cap] w fun e w' => e = .returned (.bool true) ∧ Fr none' w w' := by
  have HA : Hid (Nums w a0 len) := ha
  clear ha
  go_enter Try.func5, Try.ntmps5
  go_wp2_with fail
  refine (awake_any _).mono ?_
  rintro e w1 ⟨rfl, f1⟩
  go_wp2_with fail
  refine (new_any _).mono ?_
  rintro e w2 ⟨bt, rfl, hb, f2, t2⟩
  replace f2 := f1.trans f2
  replace hb := Nat.le_trans f1.size hb
  have HB := hid hb
  clear f1 hb
  go_upto_block 0 with fail
  go_cut [5, 6] from 23 to 63 (fun s i wx => ∃ (n : Nat) (T : Nat → Li), s = .int .i64 (n : Int) ∧ n ≤ 32 ∧ Fr none' w wx ∧ IsGic wx bt T 256 ∧ Hid (Left T n n (-1) 0))
  case first =>
    go_wp2_with fail
    go_loopw [5, 6] (fun s i wr => ∃ (k : Nat) (T : Nat → Li), k ≤ len ∧ k ≤ 32 ∧ s = .int .i64 k ∧ i = .int .i64 k ∧ Fr none' w wr ∧ IsGic wr bt T 256 ∧ Hid (Laid T k ∧ ∀ j, j < k → (T j).pe = true)) (fun _ i _ => 32 - (intOf i).toNat)
    case atStart => exact ⟨0, fun _ => zi, by omega, by omega, rfl, rfl, f2, t2, hid ⟨laid_zero, fun j hj => by omega⟩⟩
    case round =>
      clear f2 t2
      obtain ⟨k, T, hk1, hk2, rfl, rfl, fk, tk, HL⟩ := hrel
      by_cases hkl : k < len
      · by_cases hk3 : k < 32
        · obtain ⟨b, o, x, rfl, hcell⟩ := HA.out k hkl
          have c0 := cell_keep fk hcell (fun h => h)
          have i1 : 0 ≤ (k : Int) ∧ (k : Int) < (len : Int) := by omega
          have u1 : decide ((k : Int) < (len : Int)) = true := decide_eq_true (by omega)
          have u2 : decide ((k : Int) < 32) = true := decide_eq_true (by omega)
          have hL : isL (k : Int) = true := isL_iff.mpr (by omega)
          have ek := err_in hL
          have hb1 : -255 ≤ x.tmod 256 ∧ x.tmod 256 ≤ 255 := by
            have h1 := Int.tmod_lt_of_pos x (show (0 : Int) < 256 by decide)
            have h2 : -256 < x.tmod 256 := by
              rcases Int.le_total 0 x with h | h
              · have := Int.tmod_nonneg (256 : Int) h; omega
              · have h3 := Int.tmod_lt_of_pos (-x) (show (0 : Int) < 256 by decide)
                rw [Int.neg_tmod] at h3; omega
            omega
          by_cases hneg : x.tmod 256 < 0
          · have u3 : decide (x.tmod 256 < 0) = true := decide_eq_true hneg
            have hP : isP (-(x.tmod 256)) = true := isP_iff.mpr (by omega)
            have ep : prE (k : Int) (-(x.tmod 256)) = 0 := by rw [pe_ok hP, ek]
            have T1 : prT T (k : Int) (-(x.tmod 256)) = upd T k (fP (-(x.tmod 256)) (T k)) := by rw [pr_ok hP, ch_in hL]
            have T2 : chT (upd T k (fP (-(x.tmod 256)) (T k))) (k : Int) (fEn true) = upd T k ⟨-(x.tmod 256), (T k).s, true, (T k).pe⟩ := by rw [ch_in hL, upd_same, upd_upd]; rfl
            have T3 : chT (upd T k ⟨-(x.tmod 256), (T k).s, true, (T k).pe⟩) (k : Int) (fPe true) = upd T k ⟨-(x.tmod 256), (T k).s, true, true⟩ := by rw [ch_in hL, upd_same, upd_upd]; rfl
            have hw : IntKind.i64.wrap (-(x.tmod 256)) = -(x.tmod 256) := wrap_small (by omega) (by omega)
            have HB1 := hid (show 0 ≤ -(x.tmod 256) ∧ -(x.tmod 256) ≤ 255 by omega)
            clear hb1 hneg hcell hP hL
            go_wp2_with fail
            refine (prior_any _ _ _ _ tk (k : Int) (-(x.tmod 256))).mono ?_
            rintro e w5 ⟨rfl, f5, t5⟩
            rw [T1] at t5
            rw [ep]
            replace fk := fk.lone f5 HB.out
            clear tk f5 c0
            go_wp2_with fail
            refine (enable_any _ _ _ _ t5 (k : Int) true).mono ?_
            rintro e w6 ⟨rfl, f5, t6⟩
            rw [T2] at t6
            rw [ek]
            replace fk := fk.lone f5 HB.out
            clear t5 f5
            go_wp2_with fail
            refine (raise_any _ _ _ _ t6 (k : Int)).mono ?_
            rintro e w7 ⟨rfl, f5, t7⟩
            rw [T3] at t7
            rw [ek]
            replace fk := fk.lone f5 HB.out
            clear t6 f5
            go_wp2_with fail
            go_roundw
            case rel => exact ⟨k + 1, _, by omega, by omega, by go_num, by go_num, fk, t7, hid ⟨HL.out.1.next hk3 HB1.out, fun j hj => by
              by_cases e : j = k
              · subst e; rw [upd_same]
              · rw [upd_other _ _ e]; exact HL.out.2 j (by omega)⟩⟩
            case measure => simp [intOf]; omega
          · have u3 : decide (x.tmod 256 < 0) = false := decide_eq_false hneg
            have hP : isP (x.tmod 256) = true := isP_iff.mpr (by omega)
            have ep : prE (k : Int) (x.tmod 256) = 0 := by rw [pe_ok hP, ek]
            have T1 : prT T (k : Int) (x.tmod 256) = upd T k (fP (x.tmod 256) (T k)) := by rw [pr_ok hP, ch_in hL]
            have T2 : chT (upd T k (fP (x.tmod 256) (T k))) (k : Int) (fEn true) = upd T k ⟨x.tmod 256, (T k).s, true, (T k).pe⟩ := by rw [ch_in hL, upd_same, upd_upd]; rfl
            have T3 : chT (upd T k ⟨x.tmod 256, (T k).s, true, (T k).pe⟩) (k : Int) (fPe true) = upd T k ⟨x.tmod 256, (T k).s, true, true⟩ := by rw [ch_in hL, upd_same, upd_upd]; rfl
            have HB1 := hid (show 0 ≤ x.tmod 256 ∧ x.tmod 256 ≤ 255 by omega)
            clear hb1 hneg hcell hP hL
            go_wp2_with fail
            refine (prior_any _ _ _ _ tk (k : Int) (x.tmod 256)).mono ?_
            rintro e w5 ⟨rfl, f5, t5⟩
            rw [T1] at t5
            rw [ep]
            replace fk := fk.lone f5 HB.out
            clear tk f5 c0
            go_wp2_with fail
            refine (enable_any _ _ _ _ t5 (k : Int) true).mono ?_
            rintro e w6 ⟨rfl, f5, t6⟩
            rw [T2] at t6
            rw [ek]
            replace fk := fk.lone f5 HB.out
            clear t5 f5
            go_wp2_with fail
            refine (raise_any _ _ _ _ t6 (k : Int)).mono ?_
            rintro e w7 ⟨rfl, f5, t7⟩
            rw [T3] at t7
            rw [ek]
            replace fk := fk.lone f5 HB.out
            clear t6 f5
            go_wp2_with fail
            go_roundw
            case rel => exact ⟨k + 1, _, by omega, by omega, by go_num, by go_num, fk, t7, hid ⟨HL.out.1.next hk3 HB1.out, fun j hj => by
              by_cases e : j = k
              · subst e; rw [upd_same]
              · rw [upd_other _ _ e]; exact HL.out.2 j (by omega)⟩⟩
            case measure => simp [intOf]; omega
        · have u1 : decide ((k : Int) < (len : Int)) = true := decide_eq_true (by omega)
          have u2 : decide ((k : Int) < 32) = false := decide_eq_false (by omega)
          go_wp2_with fail
          go_meet
          exact ⟨k, T, rfl, hk2, fk, tk, hid ⟨HL.out.1, cntP_all HL.out.2, fun j hj _ => by have := HL.out.1.line j (by omega); omega⟩⟩
      · have u1 : decide ((k : Int) < (len : Int)) = false := decide_eq_false (by omega)
        go_wp2_with fail
        go_meet
        exact ⟨k, T, rfl, hk2, fk, tk, hid ⟨HL.out.1, cntP_all HL.out.2, fun j hj _ => by have := HL.out.1.line j (by omega); omega⟩⟩
  case rest =>
  clear f2 t2 HA
  obtain ⟨n, T, rfl, hn, fk, tk, HL⟩ := hcut
  go_wp2_with fail
  go_loopw [11, 12, 13] (fun la be i wr => ∃ (k : Nat) (last before : Int) (T : Nat → Li), k ≤ n ∧ la = .int .i64 last ∧ be = .int .i64 before ∧ i = .int .i64 k ∧ Fr none' w wr ∧ IsGic wr bt T 256 ∧ Hid (Left T n (n - k) last before)) (fun _ _ i _ => n - (intOf i).toNat)
  case atStart => exact ⟨0, -1, 0, T, by omega, rfl, rfl, rfl, fk, tk, HL⟩
  case round =>
    clear fk tk HL
    obtain ⟨k, last, before, T, hk, rfl, rfl, rfl, fk, tk, HL⟩ := hrel
    by_cases hlt : k < n
    · have u1 : decide ((k : Int) < (n : Int)) = true := decide_eq_true (by omega)
      have u2 : decide (k < n) = true := decide_eq_true hlt
      have HS := Left.some (T := T) (n := n) (c := n - k - 1) (last := last) (before := before) (by have := HL.out; rwa [show n - k = n - k - 1 + 1 by omega] at this) hn
      obtain ⟨q, hqe⟩ : ∃ q, nextL T 256 = q := ⟨_, rfl⟩
      rw [hqe] at HS
      obtain ⟨ho, hqn, hbe, hpq, hleft⟩ := HS
      obtain ⟨ea, et⟩ := ack_yes ho hqe
      have A := ack_any _ _ _ _ tk
      rw [ea, et] at A
      have hq32 : q < 32 := by omega
      have hL : isL (q : Int) = true := isL_iff.mpr (by omega)
      have hact : act (fAck (T q)) = true := by
        have : (T q).p ≠ 256 := by omega
        simp [act, fAck, this]
      have ee : enE (upd T q (fAck (T q))) (q : Int) = 0 := by simp [enE, hL, upd_same, hact]
      have T2 : enT (upd T q (fAck (T q))) (q : Int) = upd T q ⟨(T q).p, 256, (T q).en, false⟩ := by unfold enT; rw [ch_in hL, upd_same, upd_upd]; rfl
      have g1 : decide ((q : Int) < 0) = false := decide_eq_false (by omega)
      have g2 : decide ((n : Int) ≤ (q : Int)) = false := decide_eq_false (by omega)
      have g3 : decide (n ≤ q) = false := decide_eq_false (by omega)
      have g4 : decide ((T q).p < last) = false := decide_eq_false (by omega)
      have HF := hid hleft
      have HE := hid hbe
      clear ho hqe ea et hleft hbe HL hL hpq
      go_wp2_with fail
      refine A.mono ?_
      rintro e w5 ⟨rfl, f5, t5⟩
      replace fk := fk.lone f5 HB.out
      clear A tk f5
      have H := state_in _ _ _ _ t5 q hq32
      rw [upd_same, lrc, hact] at H
      simp only [fAck] at H
      go_wp2_with fail
      refine H.mono ?_
      rintro e w6 ⟨rfl, f6⟩
      replace fk := fk.trans f6
      replace t5 := t5.keep f6 (fun h => h)
      clear H f6
      have fa := (Fr.refl none' w6).alloc (.cells #[.int .i64 (q : Int), .int .i64 (T q).p, .bool (T q).en, .bool false, .bool true] 39)
      have ra := row_alloc w6 #[.int .i64 (q : Int), .int .i64 (T q).p, .bool (T q).en, .bool false, .bool true] 39
      have hne : w6.heap.size ≠ bt := Nat.ne_of_gt t5.lt
      replace fk := fk.trans fa
      replace t5 := t5.keep fa (fun h => h)
      have E := end_any _ _ _ _ t5 (q : Int)
      rw [ee, T2] at E
      clear fa
      go_wp2_with fail
      refine E.mono ?_
      rintro e w7 ⟨rfl, f7, t7⟩
      replace fk := fk.lone f7 HB.out
      replace ra := ra.keep f7 hne
      obtain ⟨d0, d1, d2, d3, d4⟩ := row5 ra
      clear E f7 t5
      by_cases hpl : (T q).p = last
      · have v1 : ((T q).p == last) = true := by simpa using hpl
        have v2 : decide ((q : Int) ≤ before) = false := decide_eq_false (by have := HE.out; omega)
        clear hpl
        go_wp2_with fail
        go_roundw
        case rel => exact ⟨k + 1, _, _, _, by omega, rfl, rfl, by go_num, fk, t7, by rw [show n - (k + 1) = n - k - 1 by omega]; exact HF⟩
        case measure => simp [intOf]; omega
      · have v1 : ((T q).p == last) = false := by simpa using hpl
        clear hpl
        go_wp2_with fail
        go_roundw
        case rel => exact ⟨k + 1, _, _, _, by omega, rfl, rfl, by go_num, fk, t7, by rw [show n - (k + 1) = n - k - 1 by omega]; exact HF⟩
        case measure => simp [intOf]; omega
    · obtain rfl : k = n := by omega
      have u1 : decide ((k : Int) < (k : Int)) = false := decide_eq_false (by omega)
      have u2 : decide (k < k) = false := decide_eq_false (by omega)
      obtain ⟨ea, et⟩ := ack_no (Left.none (T := T) (n := k) (last := last) (before := before) (by have := HL.out; rwa [Nat.sub_self] at this))
      have A := ack_any _ _ _ _ tk
      rw [ea, et] at A
      go_wp2_with fail
      refine A.mono ?_
      rintro e w5 ⟨rfl, f5, t5⟩
      replace fk := fk.lone f5 HB.out
      go_wp2_with fail
      go_ret
      exact ⟨rfl, fk⟩

theorem serves_any (a0 : Option Addr) (len cap : Nat) (w : World) (hl : len ≤ 9223372036854775807) (ha : Nums w a0 len) :
    Calls Try.prog 5 #[.slice a0 len cap] w fun e w' => e = .returned (.bool true) ∧ Below w.heap.size w w' :=
  (serves_row a0 len cap w hl ha).mono fun _ _ ⟨he, hf⟩ => ⟨he, hf.below (Nat.le_refl _) (fun _ h => h.elim)⟩

end Go.Proofs.Ytcenojdcmmflaaa
