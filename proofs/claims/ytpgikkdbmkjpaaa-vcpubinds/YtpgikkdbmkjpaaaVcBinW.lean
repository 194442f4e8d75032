/-
  The walk of VcpuBinds. No statement is proved here.
-/
import Derived.Test.YtpgikkdbmkjpaaaVcDoesB
import Derived.Test.YtpgikkdbmkjpaaaVcAwake
import Derived.Below
namespace Go.Proofs.Ytpgikkdbmkjpaaa
open Go.RowKit Go.Maps Go.WideMaps

theorem bel_of {w w' : World} (h : Fr none' w w') : Below w.heap.size w w' := ⟨h.os, h.tape, h.output, h.size, fun i hi => h.block i hi (fun h => h)⟩
theorem Bx.start {w0 w1 w2 : World} {p : Pp} {q : Qd} {S R : Vp} (h : Vx w0 w1 p S none') (f : Fr none' w1 w2) (d : IsD w2 q R) (hq : ∀ k, q.s k → w1.heap.size ≤ k) : Bx w0 w2 p q S R none' :=
  ⟨h.keep0 f, d, fun k hk => ⟨Nat.le_trans h.fr.size (hq k hk), fun h => h, fun hp => by have := h.is.lt k hp; have := hq k hk; omega⟩⟩
theorem thr_of {S : Vp} (g : GoodP S) {id : Int} (h : 0 ≤ thrI S id) : ofI S (thrI S id) = id := by
  unfold thrI at h ⊢
  cases hf : fnd S.L id with
  | none => rw [hf] at h; exact absurd (show (0 : Int) ≤ -1 from h) (by omega)
  | some x =>
    rw [hf] at h
    have h : 0 ≤ x.th := h
    obtain ⟨_, _, hm, hid⟩ := g.pos hf
    have ht := g.th x hm
    show ofI S x.th = id
    rw [of_is g (rg_iff.2 (by omega)) hm rfl, hid]
theorem of_thr {S : Vp} (g : GoodP S) {t : Int} (h : 0 ≤ ofI S t) : thrI S (ofI S t) = t ∧ I64 (ofI S t) := by
  unfold ofI at h ⊢
  by_cases hr : rgB t 0 1023 = true
  · rw [if_pos hr] at h ⊢
    cases hf : ofO S t with
    | none => rw [hf] at h; exact absurd (show (0 : Int) ≤ -1 from h) (by omega)
    | some x =>
      have hm := List.mem_of_find?_eq_some hf
      have ht : x.th = t := by simpa using List.find?_some hf
      have hi := g.ids x hm
      refine ⟨?_, ⟨by show -9223372036854775808 ≤ x.id; omega, by show x.id ≤ 9223372036854775807; omega⟩⟩
      show thrI S x.id = t
      unfold thrI
      rw [fnd_of_mem g.one hm]
      exact ht
  · rw [if_neg hr] at h
    exact absurd h (by omega)
set_option maxRecDepth 100000 in
set_option maxHeartbeats 4000000 in
theorem lbinds_any (a0 : Option Addr) (len cap : Nat) (W : World) (hl : len ≤ 9223372036854775807) (hA : ∃ A, Acs W a0 len A) :
    Calls Try.prog 7 #[.slice a0 len cap] W fun e W' => e = .returned (.bool true) ∧ Below W.heap.size W W' := by
  obtain ⟨A, hA⟩ := hA
  have HA : Hid (Acs W a0 len A) := hA
  clear hA
  go_enter Try.func7, Try.ntmps7
  go_wp2_with fail
  refine (awake_any W).mono ?_
  rintro e w1 ⟨rfl, F0⟩
  have HF : Hid (Fr none' W w1) := F0
  clear F0
  go_wp2_with fail
  refine (xnew w1 1 (by decide)).mono ?_
  rintro e w2 ⟨p, rfl, P⟩
  go_wp2_with fail
  refine (dnew_ok w2 1 (by decide)).mono ?_
  rintro e w3 ⟨q, rfl, f3, D, hq⟩
  have HB : Hid (∃ p' q' S, p'.b = p.b ∧ q'.b = q.b ∧ Bx w1 w3 p' q' S S none') := ⟨p, q, _, rfl, rfl, Bx.start P f3 D hq⟩
  clear P f3 D hq
  generalize p.b = bp at *
  generalize q.b = bq at *
  go_wp2_with fail
  go_loopw [8] (fun i wr => ∃ k : Nat, k ≤ len ∧ k ≤ 100 ∧ i = .int .i64 (k : Int) ∧ Hid (∃ p' q' S, p'.b = bp ∧ q'.b = bq ∧ Bx w1 wr p' q' S S none')) (fun i _ => 100 - (intOf i).toNat)
  case atStart => exact ⟨0, by omega, by omega, rfl, HB.out⟩
  case round =>
    clear HB p q
    obtain ⟨k, hk, hk2, rfl, hb⟩ := hrel
    obtain ⟨p, q, S, ep, eq, hB⟩ := hb.out
    by_cases hlt : k < len
    · by_cases hlt2 : k < 100
      · obtain ⟨bb, o, rfl, ak, ok⟩ := (HA.out.keep' (HF.out.trans hB.vx.fr)) k hlt
        have i1 : 0 ≤ (k : Int) ∧ (k : Int) < (len : Int) := by omega
        have uk1 : decide ((k : Int) < (len : Int)) = true := decide_eq_true (by omega)
        have uk2 : decide ((k : Int) < 100) = true := decide_eq_true (by omega)
        have c0 : wr.cell? ⟨bb, o + k * 13, none⟩ = some (.int .i64 (A k).d) := ak 0 (by omega)
        have c1 : wr.cell? ⟨bb, o + k * 13 + 1, none⟩ = some (.int .i64 (A k).i) := ak 1 (by omega)
        have c2 : wr.cell? ⟨bb, o + k * 13 + 2, none⟩ = some (.int .i64 (A k).n) := ak 2 (by omega)
        have c3 : wr.cell? ⟨bb, o + k * 13 + 3, none⟩ = some (.int .i64 (A k).m) := ak 3 (by omega)
        have c4 : wr.cell? ⟨bb, o + k * 13 + 4, none⟩ = some (.int .u32 ((A k).b 0)) := ak 4 (by omega)
        have c5 : wr.cell? ⟨bb, o + k * 13 + 5, none⟩ = some (.int .u32 ((A k).b 1)) := ak 5 (by omega)
        have c6 : wr.cell? ⟨bb, o + k * 13 + 6, none⟩ = some (.int .u32 ((A k).b 2)) := ak 6 (by omega)
        have c7 : wr.cell? ⟨bb, o + k * 13 + 7, none⟩ = some (.int .u32 ((A k).b 3)) := ak 7 (by omega)
        have c8 : wr.cell? ⟨bb, o + k * 13 + 8, none⟩ = some (.int .u32 ((A k).b 4)) := ak 8 (by omega)
        have c9 : wr.cell? ⟨bb, o + k * 13 + 9, none⟩ = some (.int .u32 ((A k).b 5)) := ak 9 (by omega)
        have c10 : wr.cell? ⟨bb, o + k * 13 + 10, none⟩ = some (.int .u32 ((A k).b 6)) := ak 10 (by omega)
        have c11 : wr.cell? ⟨bb, o + k * 13 + 11, none⟩ = some (.int .u32 ((A k).b 7)) := ak 11 (by omega)
        have c12 : wr.cell? ⟨bb, o + k * 13 + 12, none⟩ = some (.bool (A k).on) := ak 12 (by omega)
        have X := does_any w1 wr p q S S none' hB (A k) ok (fun _ => rfl)
        rw [ep, eq] at X
        unfold acA at X
        have HE : Hid (p.b = bp ∧ q.b = bq) := ⟨ep, eq⟩
        clear ok ak hB hb ep eq
        go_wp2_with fail
        refine X.mono ?_
        clear X c0 c1 c2 c3 c4 c5 c6 c7 c8 c9 c10 c11 c12
        rintro e w4 ⟨v, rfl, _, p', q', b4, e1, e2, _⟩
        have HB : Hid (∃ p' q' S, p'.b = bp ∧ q'.b = bq ∧ Bx w1 w4 p' q' S S none') := ⟨p', q', _, e1.trans HE.out.1, e2.trans HE.out.2, b4⟩
        clear b4 e1 e2
        go_wp2_with fail
        go_roundw
        case rel => exact ⟨k + 1, by omega, by omega, by go_num, HB⟩
        case measure => simp [intOf]; omega
      · have uk1 : decide ((k : Int) < (len : Int)) = true := decide_eq_true (by omega)
        have uk2 : decide ((k : Int) < 100) = false := decide_eq_false (by omega)
        have HP : Hid (Vx w1 wr p S none') := hB.vx
        clear hB hb eq
        subst ep
        go_wp2_with fail
        go_loopw [9] (fun a wx => ∃ i : Nat, i ≤ 6 ∧ a = .int .i64 (i : Int) ∧ Hid (Vx w1 wx p S none')) (fun a _ => 6 - (intOf a).toNat)
        case atStart => exact ⟨0, by omega, rfl, HP.out⟩
        case round =>
          obtain ⟨i, hi, rfl, hV⟩ := hrel
          have g := hV.out.is.good
          by_cases h6 : i < 6
          · have d6 : decide ((i : Int) < 6) = true := decide_eq_true (by omega)
            have T1 := xthread hV.out i (i64_of (by omega) (by omega))
            have HT1 : Hid (0 ≤ thrI S i → ofI S (thrI S i) = i) := thr_of g
            have HT2 : Hid (0 ≤ ofI S i → thrI S (ofI S i) = i ∧ I64 (ofI S i)) := of_thr g
            clear g
            generalize ht : thrI S i = t at *
            generalize ho : ofI S i = v at *
            have HV : Hid (ofI S i = v) := ho
            clear ho ht
            by_cases h0 : 0 ≤ t
            · have e0 : decide (0 ≤ t) = true := decide_eq_true h0
              by_cases h1 : 0 ≤ v
              · have e1 : decide (0 ≤ v) = true := decide_eq_true h1
                have HW : Hid (Vx w1 wr p S none') := hV.out
                clear hV HP
                go_wp2_with fail
                refine T1.mono ?_
                clear T1
                rintro e w5 ⟨rfl, rfl⟩
                have X := xof HW.out t
                rw [HT1.out h0] at X
                go_wp2_with fail
                refine X.mono ?_
                clear X
                rintro e w6 ⟨rfl, f6⟩
                have H6 : Hid (Vx w1 w6 p S none') := HW.out.keep0 f6
                clear f6 HW
                have Y := xof H6.out i
                rw [HV.out] at Y
                go_wp2_with fail
                refine Y.mono ?_
                clear Y
                rintro e w7 ⟨rfl, f7⟩
                have H7 : Hid (Vx w1 w7 p S none') := H6.out.keep0 f7
                clear f7 H6
                have Z := xthread H7.out v (HT2.out h1).2
                rw [(HT2.out h1).1] at Z
                go_wp2_with fail
                refine Z.mono ?_
                clear Z
                rintro e w8 ⟨rfl, rfl⟩
                go_wp2_with fail
                go_roundw
                case rel => exact ⟨i + 1, by omega, by go_num, H7⟩
                case measure => simp [intOf]; omega
              · have e1 : decide (0 ≤ v) = false := decide_eq_false h1
                have HW : Hid (Vx w1 wr p S none') := hV.out
                clear hV HP
                go_wp2_with fail
                refine T1.mono ?_
                clear T1
                rintro e w5 ⟨rfl, rfl⟩
                have X := xof HW.out t
                rw [HT1.out h0] at X
                go_wp2_with fail
                refine X.mono ?_
                clear X
                rintro e w6 ⟨rfl, f6⟩
                have H6 : Hid (Vx w1 w6 p S none') := HW.out.keep0 f6
                clear f6 HW
                have Y := xof H6.out i
                rw [HV.out] at Y
                go_wp2_with fail
                refine Y.mono ?_
                clear Y
                rintro e w7 ⟨rfl, f7⟩
                have H7 : Hid (Vx w1 w7 p S none') := H6.out.keep0 f7
                clear f7 H6
                go_wp2_with fail
                go_roundw
                case rel => exact ⟨i + 1, by omega, by go_num, H7⟩
                case measure => simp [intOf]; omega
            · have e0 : decide (0 ≤ t) = false := decide_eq_false h0
              by_cases h1 : 0 ≤ v
              · have e1 : decide (0 ≤ v) = true := decide_eq_true h1
                have HW : Hid (Vx w1 wr p S none') := hV.out
                clear hV HP
                go_wp2_with fail
                refine T1.mono ?_
                clear T1
                rintro e w5 ⟨rfl, rfl⟩
                have H6 : Hid (Vx w1 _ p S none') := HW.out
                clear HW
                have Y := xof H6.out i
                rw [HV.out] at Y
                go_wp2_with fail
                refine Y.mono ?_
                clear Y
                rintro e w7 ⟨rfl, f7⟩
                have H7 : Hid (Vx w1 w7 p S none') := H6.out.keep0 f7
                clear f7 H6
                have Z := xthread H7.out v (HT2.out h1).2
                rw [(HT2.out h1).1] at Z
                go_wp2_with fail
                refine Z.mono ?_
                clear Z
                rintro e w8 ⟨rfl, rfl⟩
                go_wp2_with fail
                go_roundw
                case rel => exact ⟨i + 1, by omega, by go_num, H7⟩
                case measure => simp [intOf]; omega
              · have e1 : decide (0 ≤ v) = false := decide_eq_false h1
                have HW : Hid (Vx w1 wr p S none') := hV.out
                clear hV HP
                go_wp2_with fail
                refine T1.mono ?_
                clear T1
                rintro e w5 ⟨rfl, rfl⟩
                have H6 : Hid (Vx w1 _ p S none') := HW.out
                clear HW
                have Y := xof H6.out i
                rw [HV.out] at Y
                go_wp2_with fail
                refine Y.mono ?_
                clear Y
                rintro e w7 ⟨rfl, f7⟩
                have H7 : Hid (Vx w1 w7 p S none') := H6.out.keep0 f7
                clear f7 H6
                go_wp2_with fail
                go_roundw
                case rel => exact ⟨i + 1, by omega, by go_num, H7⟩
                case measure => simp [intOf]; omega
          · have d6 : decide ((i : Int) < 6) = false := decide_eq_false (by omega)
            have X := xof hV.out (-1)
            have e1 : ofI S (-1) = -1 := by unfold ofI; rw [if_neg (by decide)]
            rw [e1] at X
            have HV2 : Hid _ := hV.out
            clear hV HP
            go_wp2_with fail
            refine X.mono ?_
            clear X
            rintro e w9 ⟨rfl, f9⟩
            have HZ : Hid (Fr none' w1 w9) := HV2.out.fr.trans f9
            clear f9
            go_wp2_with fail
            go_ret
            exact ⟨rfl, bel_of (HF.out.trans HZ.out)⟩
    · have uk1 : decide ((k : Int) < (len : Int)) = false := decide_eq_false (by omega)
      have HP : Hid (Vx w1 wr p S none') := hB.vx
      clear hB hb eq
      subst ep
      go_wp2_with fail
      go_loopw [9] (fun a wx => ∃ i : Nat, i ≤ 6 ∧ a = .int .i64 (i : Int) ∧ Hid (Vx w1 wx p S none')) (fun a _ => 6 - (intOf a).toNat)
      case atStart => exact ⟨0, by omega, rfl, HP.out⟩
      case round =>
        obtain ⟨i, hi, rfl, hV⟩ := hrel
        have g := hV.out.is.good
        by_cases h6 : i < 6
        · have d6 : decide ((i : Int) < 6) = true := decide_eq_true (by omega)
          have T1 := xthread hV.out i (i64_of (by omega) (by omega))
          have HT1 : Hid (0 ≤ thrI S i → ofI S (thrI S i) = i) := thr_of g
          have HT2 : Hid (0 ≤ ofI S i → thrI S (ofI S i) = i ∧ I64 (ofI S i)) := of_thr g
          clear g
          generalize ht : thrI S i = t at *
          generalize ho : ofI S i = v at *
          have HV : Hid (ofI S i = v) := ho
          clear ho ht
          by_cases h0 : 0 ≤ t
          · have e0 : decide (0 ≤ t) = true := decide_eq_true h0
            by_cases h1 : 0 ≤ v
            · have e1 : decide (0 ≤ v) = true := decide_eq_true h1
              have HW : Hid (Vx w1 wr p S none') := hV.out
              clear hV HP
              go_wp2_with fail
              refine T1.mono ?_
              clear T1
              rintro e w5 ⟨rfl, rfl⟩
              have X := xof HW.out t
              rw [HT1.out h0] at X
              go_wp2_with fail
              refine X.mono ?_
              clear X
              rintro e w6 ⟨rfl, f6⟩
              have H6 : Hid (Vx w1 w6 p S none') := HW.out.keep0 f6
              clear f6 HW
              have Y := xof H6.out i
              rw [HV.out] at Y
              go_wp2_with fail
              refine Y.mono ?_
              clear Y
              rintro e w7 ⟨rfl, f7⟩
              have H7 : Hid (Vx w1 w7 p S none') := H6.out.keep0 f7
              clear f7 H6
              have Z := xthread H7.out v (HT2.out h1).2
              rw [(HT2.out h1).1] at Z
              go_wp2_with fail
              refine Z.mono ?_
              clear Z
              rintro e w8 ⟨rfl, rfl⟩
              go_wp2_with fail
              go_roundw
              case rel => exact ⟨i + 1, by omega, by go_num, H7⟩
              case measure => simp [intOf]; omega
            · have e1 : decide (0 ≤ v) = false := decide_eq_false h1
              have HW : Hid (Vx w1 wr p S none') := hV.out
              clear hV HP
              go_wp2_with fail
              refine T1.mono ?_
              clear T1
              rintro e w5 ⟨rfl, rfl⟩
              have X := xof HW.out t
              rw [HT1.out h0] at X
              go_wp2_with fail
              refine X.mono ?_
              clear X
              rintro e w6 ⟨rfl, f6⟩
              have H6 : Hid (Vx w1 w6 p S none') := HW.out.keep0 f6
              clear f6 HW
              have Y := xof H6.out i
              rw [HV.out] at Y
              go_wp2_with fail
              refine Y.mono ?_
              clear Y
              rintro e w7 ⟨rfl, f7⟩
              have H7 : Hid (Vx w1 w7 p S none') := H6.out.keep0 f7
              clear f7 H6
              go_wp2_with fail
              go_roundw
              case rel => exact ⟨i + 1, by omega, by go_num, H7⟩
              case measure => simp [intOf]; omega
          · have e0 : decide (0 ≤ t) = false := decide_eq_false h0
            by_cases h1 : 0 ≤ v
            · have e1 : decide (0 ≤ v) = true := decide_eq_true h1
              have HW : Hid (Vx w1 wr p S none') := hV.out
              clear hV HP
              go_wp2_with fail
              refine T1.mono ?_
              clear T1
              rintro e w5 ⟨rfl, rfl⟩
              have H6 : Hid (Vx w1 _ p S none') := HW.out
              clear HW
              have Y := xof H6.out i
              rw [HV.out] at Y
              go_wp2_with fail
              refine Y.mono ?_
              clear Y
              rintro e w7 ⟨rfl, f7⟩
              have H7 : Hid (Vx w1 w7 p S none') := H6.out.keep0 f7
              clear f7 H6
              have Z := xthread H7.out v (HT2.out h1).2
              rw [(HT2.out h1).1] at Z
              go_wp2_with fail
              refine Z.mono ?_
              clear Z
              rintro e w8 ⟨rfl, rfl⟩
              go_wp2_with fail
              go_roundw
              case rel => exact ⟨i + 1, by omega, by go_num, H7⟩
              case measure => simp [intOf]; omega
            · have e1 : decide (0 ≤ v) = false := decide_eq_false h1
              have HW : Hid (Vx w1 wr p S none') := hV.out
              clear hV HP
              go_wp2_with fail
              refine T1.mono ?_
              clear T1
              rintro e w5 ⟨rfl, rfl⟩
              have H6 : Hid (Vx w1 _ p S none') := HW.out
              clear HW
              have Y := xof H6.out i
              rw [HV.out] at Y
              go_wp2_with fail
              refine Y.mono ?_
              clear Y
              rintro e w7 ⟨rfl, f7⟩
              have H7 : Hid (Vx w1 w7 p S none') := H6.out.keep0 f7
              clear f7 H6
              go_wp2_with fail
              go_roundw
              case rel => exact ⟨i + 1, by omega, by go_num, H7⟩
              case measure => simp [intOf]; omega
        · have d6 : decide ((i : Int) < 6) = false := decide_eq_false (by omega)
          have X := xof hV.out (-1)
          have e1 : ofI S (-1) = -1 := by unfold ofI; rw [if_neg (by decide)]
          rw [e1] at X
          have HV2 : Hid _ := hV.out
          clear hV HP
          go_wp2_with fail
          refine X.mono ?_
          clear X
          rintro e w9 ⟨rfl, f9⟩
          have HZ : Hid (Fr none' w1 w9) := HV2.out.fr.trans f9
          clear f9
          go_wp2_with fail
          go_ret
          exact ⟨rfl, bel_of (HF.out.trans HZ.out)⟩

end Go.Proofs.Ytpgikkdbmkjpaaa
