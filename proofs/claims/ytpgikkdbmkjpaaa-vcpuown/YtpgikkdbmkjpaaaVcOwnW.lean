/-
  The walk of VcpuOwn. No statement is proved here.
-/
import Derived.Test.YtpgikkdbmkjpaaaVcDoesB
import Derived.Test.YtpgikkdbmkjpaaaVcAwake
import Derived.Test.YtpgikkdbmkjpaaaVcOwnD
import Derived.Test.YtpgikkdbmkjpaaaVgAll
import Derived.Below
namespace Go.Proofs.Ytpgikkdbmkjpaaa
open Go.RowKit Go.Maps Go.WideMaps

theorem bel_of {w w' : World} (h : Fr none' w w') : Below w.heap.size w w' := ⟨h.os, h.tape, h.output, h.size, fun i hi => h.block i hi (fun h => h)⟩
theorem Bx.start {w0 w1 w2 : World} {p : Pp} {q : Qd} {S R : Vp} (h : Vx w0 w1 p S none') (f : Fr none' w1 w2) (d : IsD w2 q R) (hq : ∀ k, q.s k → w1.heap.size ≤ k) : Bx w0 w2 p q S R none' :=
  ⟨h.keep0 f, d, fun k hk => ⟨Nat.le_trans h.fr.size (hq k hk), fun h => h, fun hp => by have := h.is.lt k hp; have := hq k hk; omega⟩⟩
set_option maxRecDepth 100000 in
set_option maxHeartbeats 4000000 in
theorem lown_any (a0 : Option Addr) (len cap : Nat) (id n v irq : Int) (W : World) (hl : len ≤ 9223372036854775807) (hA : ∃ A, Acs W a0 len A) (hid : I64 id) :
    Calls Try.prog 5 #[.slice a0 len cap, .int .i64 id, .int .i64 n, .int .u32 v, .int .i64 irq] W fun e W' => e = .returned (.bool true) ∧ Below W.heap.size W W' := by
  obtain ⟨A, hA⟩ := hA
  have HA : Hid (Acs W a0 len A) := hA
  have HID : Hid (I64 id) := hid
  clear hA hid
  go_enter Try.func5, Try.ntmps5
  go_wp2_with fail
  refine (awake_any W).mono ?_
  rintro e w1 ⟨rfl, F0⟩
  have HF : Hid (Fr none' W w1) := F0
  clear F0
  go_wp2_with fail
  refine (xnew w1 2 (by decide)).mono ?_
  rintro e w2 ⟨p, rfl, P⟩
  go_wp2_with fail
  refine (dnew_ok w2 2 (by decide)).mono ?_
  rintro e w3 ⟨q, rfl, f3, D, hq⟩
  have HB : Hid (∃ p' q' S, p'.b = p.b ∧ q'.b = q.b ∧ Bx w1 w3 p' q' S S none') := ⟨p, q, _, rfl, rfl, Bx.start P f3 D hq⟩
  clear P f3 D hq
  generalize p.b = bp at *
  generalize q.b = bq at *
  go_wp2_with fail
  go_loopw [16] (fun i wr => ∃ k : Nat, k ≤ len ∧ k ≤ 80 ∧ i = .int .i64 (k : Int) ∧ Hid (∃ p' q' S, p'.b = bp ∧ q'.b = bq ∧ Bx w1 wr p' q' S S none')) (fun i _ => 80 - (intOf i).toNat)
  case atStart => exact ⟨0, by omega, by omega, rfl, HB.out⟩
  case round =>
    clear HB p q
    obtain ⟨k, hk, hk2, rfl, hb⟩ := hrel
    obtain ⟨p, q, S, ep, eq, hB⟩ := hb.out
    by_cases hlt : k < len
    · by_cases hlt2 : k < 80
      · obtain ⟨bb, o, rfl, ak, ok⟩ := (HA.out.keep' (HF.out.trans hB.vx.fr)) k hlt
        have i1 : 0 ≤ (k : Int) ∧ (k : Int) < (len : Int) := by omega
        have uk1 : decide ((k : Int) < (len : Int)) = true := decide_eq_true (by omega)
        have uk2 : decide ((k : Int) < 80) = true := decide_eq_true (by omega)
        have c0 : wr.cell? ⟨bb, o + k * 13, none⟩ = some (.int .i64 (A k).d) := ak 0 (by omega)
        have c1 : wr.cell? ⟨bb, o + k * 13 + 1, none⟩ = some (.int .i64 (A k).i) := ak 1 (by omega)
        have c2 : wr.cell? ⟨bb, o + k * 13 + 2, none⟩ = some (.int .i64 (A k).n) := ak 2 (by omega)
        have c3 : wr.cell? ⟨bb, o + k * 13 + 3, none⟩ = some (.int .i64 (A k).m) := ak 3 (by omega)
        have c4 : wr.cell? ⟨bb, o + k * 13 + 4, none⟩ = some (.int .u32 ((A k).b 0)) := ak 4 (by omega)
        have c5 : wr.cell? ⟨bb, o + k * 13 + 5, none⟩ = some (.int .u32 ((A k).b 1)) := ak 5 (by omega)
        have c6 : wr.cell? ⟨bb, o + k * 13 + 6, none⟩ = some (.int .u32 ((A k).b 2)) := ak 6 (by omega)
        have c7 : wr.cell? ⟨bb, o + k * 13 + 7, none⟩ = some (.int .u32 ((A k).b 3)) := ak 7 (by omega)
        have c8 : wr.cell? ⟨bb, o + k * 13 + 8, none⟩ = some (.int .u32 ((A k).b 4)) := ak 8 (by omega)
        have c9 : wr.cell? ⟨bb, o + k * 13 + 9, none⟩ = some (.int .u32 ((A k).b 5)) := ak 9 (by omega)
        have c10 : wr.cell? ⟨bb, o + k * 13 + 10, none⟩ = some (.int .u32 ((A k).b 6)) := ak 10 (by omega)
        have c11 : wr.cell? ⟨bb, o + k * 13 + 11, none⟩ = some (.int .u32 ((A k).b 7)) := ak 11 (by omega)
        have c12 : wr.cell? ⟨bb, o + k * 13 + 12, none⟩ = some (.bool (A k).on) := ak 12 (by omega)
        have X := does_any w1 wr p q S S none' hB (A k) ok (fun _ => rfl)
        rw [ep, eq] at X
        unfold acA at X
        have HE : Hid (p.b = bp ∧ q.b = bq) := ⟨ep, eq⟩
        clear ok ak hB hb ep eq
        go_wp2_with fail
        refine X.mono ?_
        clear X c0 c1 c2 c3 c4 c5 c6 c7 c8 c9 c10 c11 c12
        rintro e w4 ⟨vv, rfl, _, p', q', b4, e1, e2, _⟩
        have HB : Hid (∃ p' q' S, p'.b = bp ∧ q'.b = bq ∧ Bx w1 w4 p' q' S S none') := ⟨p', q', _, e1.trans HE.out.1, e2.trans HE.out.2, b4⟩
        clear b4 e1 e2
        go_wp2_with fail
        go_roundw
        case rel => exact ⟨k + 1, by omega, by omega, by go_num, HB⟩
        case measure => simp [intOf]; omega
      · have uk1 : decide ((k : Int) < (len : Int)) = true := decide_eq_true (by omega)
        have uk2 : decide ((k : Int) < 80) = false := decide_eq_false (by omega)
        have HP : Hid (Vx w1 wr p S none') := hB.vx
        clear hB hb eq
        subst ep
        go_wp2_with fail
        have HA0 := Ar.start HP.out (fun j => ((allL (vgI S (j : Int))).length : Int))
        rw [show Array.replicate 48 (Value.int .u32 0) = #[.int .u32 0, .int .u32 0, .int .u32 0, .int .u32 0, .int .u32 0, .int .u32 0, .int .u32 0, .int .u32 0, .int .u32 0, .int .u32 0, .int .u32 0, .int .u32 0, .int .u32 0, .int .u32 0, .int .u32 0, .int .u32 0, .int .u32 0, .int .u32 0, .int .u32 0, .int .u32 0, .int .u32 0, .int .u32 0, .int .u32 0, .int .u32 0, .int .u32 0, .int .u32 0, .int .u32 0, .int .u32 0, .int .u32 0, .int .u32 0, .int .u32 0, .int .u32 0, .int .u32 0, .int .u32 0, .int .u32 0, .int .u32 0, .int .u32 0, .int .u32 0, .int .u32 0, .int .u32 0, .int .u32 0, .int .u32 0, .int .u32 0, .int .u32 0, .int .u32 0, .int .u32 0, .int .u32 0, .int .u32 0] from rfl, show Array.replicate 6 (Value.int .i64 0) = #[.int .i64 0, .int .i64 0, .int .i64 0, .int .i64 0, .int .i64 0, .int .i64 0] from rfl] at HA0
        have HR : Hid _ := HA0
        clear HA0 HP
        go_wp2_with fail
        generalize ((wr.alloc (.cells #[.int .u32 0, .int .u32 0, .int .u32 0, .int .u32 0, .int .u32 0, .int .u32 0, .int .u32 0, .int .u32 0, .int .u32 0, .int .u32 0, .int .u32 0, .int .u32 0, .int .u32 0, .int .u32 0, .int .u32 0, .int .u32 0, .int .u32 0, .int .u32 0, .int .u32 0, .int .u32 0, .int .u32 0, .int .u32 0, .int .u32 0, .int .u32 0, .int .u32 0, .int .u32 0, .int .u32 0, .int .u32 0, .int .u32 0, .int .u32 0, .int .u32 0, .int .u32 0, .int .u32 0, .int .u32 0, .int .u32 0, .int .u32 0, .int .u32 0, .int .u32 0, .int .u32 0, .int .u32 0, .int .u32 0, .int .u32 0, .int .u32 0, .int .u32 0, .int .u32 0, .int .u32 0, .int .u32 0, .int .u32 0] 42)).alloc (.cells #[.int .i64 0, .int .i64 0, .int .i64 0, .int .i64 0, .int .i64 0, .int .i64 0] 43)) = W2 at *
        generalize wr.heap.size + 1 = g2 at *
        generalize wr.heap.size = g1 at *
        go_loopw [19] (fun a wx => ∃ i : Nat, i ≤ 6 ∧ a = .int .i64 (i : Int) ∧ Hid (Ar w1 wx p S S g1 g2 (fun j => ((allL (vgI S (j : Int))).length : Int)) (i * 8) i)) (fun a _ => 6 - (intOf a).toNat)
        case atStart => exact ⟨0, by omega, rfl, HR.out⟩
        case round =>
          clear HR
          obtain ⟨i, hi, rfl, hV⟩ := hrel
          by_cases h6 : i < 6
          · have d6 : decide ((i : Int) < 6) = true := decide_eq_true (by omega)
            have HV0 : Hid _ := hV.out
            clear hV
            go_wp2_with fail
            go_loopw [20] (fun a wx => ∃ k : Nat, k ≤ 8 ∧ a = .int .i64 (k : Int) ∧ Hid (Ar w1 wx p S S g1 g2 (fun j => ((allL (vgI S (j : Int))).length : Int)) (i * 8 + k) i)) (fun a _ => 8 - (intOf a).toNat)
            case atStart => exact ⟨0, by omega, rfl, HV0.out⟩
            case round =>
              clear HV0
              obtain ⟨k, hk, rfl, hV⟩ := hrel
              by_cases h8 : k < 8
              · have d8 : decide ((k : Int) < 8) = true := decide_eq_true (by omega)
                have X := xread hV.out.vx (i : Int) (k : Int) (i64_of (by omega) (by omega))
                obtain ⟨⟨x0, cx⟩, zx⟩ := hV.out.f1.some (j := i * 8 + k) (by omega)
                have HN : Hid (Ar w1 (wr.setCell ⟨g1, i * 8 + k, none⟩ (.int .u32 (reaW S (i : Int) (k : Int)))) p S S g1 g2 (fun j => ((allL (vgI S (j : Int))).length : Int)) (i * 8 + k + 1) i) := hV.out.set1 (by omega) (by unfold FB; rw [show (i * 8 + k) / 8 = i by omega, show (i * 8 + k) % 8 = k by omega])
                have ik : 0 ≤ (i : Int) ∧ (i : Int) < 6 := by omega
                have kk : 0 ≤ (k : Int) ∧ (k : Int) < 8 := by omega
                clear hV
                go_wp2_with fail
                refine X.mono ?_
                clear X
                rintro e w5 ⟨rfl, rfl⟩
                go_wp2_with fail
                go_roundw
                case rel => exact ⟨k + 1, by omega, by go_num, HN.out⟩
                case measure => simp [intOf]; omega
              · obtain ⟨e8, he8⟩ : ∃ e8, e8 = k := ⟨_, rfl⟩
                have hk8 : k = 8 := by omega
                have d8 : decide ((k : Int) < 8) = false := decide_eq_false (by omega)
                have X := xvgic hV.out.vx (i : Int) (i64_of (by omega) (by omega))
                obtain ⟨⟨x0, cx⟩, zx⟩ := hV.out.f2.some (j := i) (by omega)
                have ik : 0 ≤ (i : Int) ∧ (i : Int) < 6 := by omega
                have HW : Hid (Ar w1 wr p S S g1 g2 (fun j => ((allL (vgI S (j : Int))).length : Int)) ((i + 1) * 8) i) := by
                  have h := hV.out
                  rw [hk8] at h
                  rw [Nat.succ_mul]
                  exact h
                clear hV he8 e8
                cases hh : hasB S (i : Int) with
                | false =>
                  have HN : Hid _ := HW.out.skip2 (by rw [hh]; decide)
                  rw [hh] at X
                  go_wp2_with fail
                  refine X.mono ?_
                  clear X
                  rintro e w5 ⟨rfl, rfl⟩
                  go_wp2_with fail
                  go_roundw
                  case rel => exact ⟨i + 1, by omega, by go_num, HN.out⟩
                  case measure => simp [intOf]; omega
                | true =>
                  obtain ⟨x, hx⟩ := has_iff.1 hh
                  rw [hh, if_pos rfl] at X
                  have Y := all_any wr (p.K (i : Int)) x.vg (HW.out.vx.vg hx)
                  have HL : Hid (vgI S (i : Int) = x.vg) := vg_some hx
                  clear hx hh
                  go_wp2_with fail
                  refine X.mono ?_
                  clear X
                  rintro e w5 ⟨rfl, rfl⟩
                  go_wp2_with fail
                  refine Y.mono ?_
                  clear Y
                  rintro e w6 ⟨v6, rfl, hL, f6⟩
                  obtain ⟨a6, cap6, rfl⟩ := hL.slice
                  have HW6 := HW.out.keep0 f6
                  obtain ⟨⟨x1, cx1⟩, zx1⟩ := HW6.f2.some (j := i) (by omega)
                  have HN : Hid (Ar w1 (w6.setCell ⟨g2, i, none⟩ (.int .i64 ((allL x.vg).length : Int))) p S S g1 g2 (fun j => ((allL (vgI S (j : Int))).length : Int)) ((i + 1) * 8) (i + 1)) := HW6.set2 (by omega) (by show ((allL x.vg).length : Int) = ((allL (vgI S (i : Int))).length : Int); rw [HL.out])
                  clear HW6 hL f6 cx zx
                  go_wp2_with fail
                  go_roundw
                  case rel => exact ⟨i + 1, by omega, by go_num, HN.out⟩
                  case measure => simp [intOf]; omega
          · have d6 : decide ((i : Int) < 6) = false := decide_eq_false (by omega)
            have HV0 : Hid (Ar w1 wr p S S g1 g2 (fun j => ((allL (vgI S (j : Int))).length : Int)) 48 6) := by
              have h := hV.out
              have : i = 6 := by omega
              subst this
              exact h
            have X := xwrite HV0.out.vx id n v HID.out
            clear hV
            go_wp2_with fail
            refine X.mono ?_
            clear X
            rintro e w5 ⟨rfl, v5, f5⟩
            have HV5 : Hid (Ar w1 w5 p (wriS S id n v) S g1 g2 (fun j => ((allL (vgI S (j : Int))).length : Int)) 48 6) := HV0.out.turn v5 f5
            clear v5 f5 HV0
            have X := xinject HV5.out.vx id irq 5 true HID.out
            go_wp2_with fail
            refine X.mono ?_
            clear X
            rintro e w6 ⟨rfl, v6, f6⟩
            have HV6 : Hid (Ar w1 w6 p (ijS (wriS S id n v) id irq 5 true) S g1 g2 (fun j => ((allL (vgI S (j : Int))).length : Int)) 48 6) := HV5.out.turn v6 f6
            clear v6 f6 HV5
            have HO : Hid (∀ i k : Nat, k < 8 → reaW (ijS (wriS S id n v) id irq 5 true) (i : Int) (k : Int) = if wriE S id n = 0 ∧ (i : Int) = id ∧ (k : Int) = n then v else FB S (i * 8 + k)) := fun i k hk => by
              rw [rea_rg _ _ hk, own_rg]
              unfold FB
              rw [show (i * 8 + k) / 8 = i by omega, show (i * 8 + k) % 8 = k by omega, rea_rg _ _ hk]
              split <;> rfl
            have HM : Hid (∀ i : Int, i ≠ id → fnd (ijS (wriS S id n v) id irq 5 true).L i = fnd S.L i) := fun i hi => own_vg S id n v irq 5 i true hi
            generalize ijS (wriS S id n v) id irq 5 true = S2 at *
            generalize wriE S id n = E at *
            go_wp2_with fail
            go_loopw [26] (fun a wx => ∃ i : Nat, i ≤ 6 ∧ a = .int .i64 (i : Int) ∧ Hid (Ar w1 wx p S2 S g1 g2 (fun j => ((allL (vgI S (j : Int))).length : Int)) 48 6)) (fun a _ => 6 - (intOf a).toNat)
            case atStart => exact ⟨0, by omega, rfl, HV6.out⟩
            case round =>
              clear HV6
              obtain ⟨i, hi, rfl, hV⟩ := hrel
              by_cases h6 : i < 6
              · have d6 : decide ((i : Int) < 6) = true := decide_eq_true (by omega)
                have HV0 : Hid _ := hV.out
                clear hV
                go_wp2_with fail
                go_loopw [27] (fun a wx => ∃ k : Nat, k ≤ 8 ∧ a = .int .i64 (k : Int) ∧ Hid (Ar w1 wx p S2 S g1 g2 (fun j => ((allL (vgI S (j : Int))).length : Int)) 48 6)) (fun a _ => 8 - (intOf a).toNat)
                case atStart => exact ⟨0, by omega, rfl, HV0.out⟩
                case round =>
                  clear HV0
                  obtain ⟨k, hk, rfl, hV⟩ := hrel
                  by_cases h8 : k < 8
                  · have d8 : decide ((k : Int) < 8) = true := decide_eq_true (by omega)
                    have X := xread hV.out.vx (i : Int) (k : Int) (i64_of (by omega) (by omega))
                    have cx := hV.out.f1.cell (j := i * 8 + k) (by omega) trivial
                    rw [HO.out i k h8] at X
                    have HN : Hid _ := hV.out
                    have ik : 0 ≤ (i : Int) ∧ (i : Int) < 6 := by omega
                    have kk : 0 ≤ (k : Int) ∧ (k : Int) < 8 := by omega
                    generalize FB S (i * 8 + k) = f0 at *
                    have eF : (f0 != f0) = false := by simp
                    have eV : (v != v) = false := by simp
                    by_cases c1 : E = 0
                    · have b1 : (E == 0) = true := by simpa using c1
                      by_cases c2 : (i : Int) = id
                      · have b2 : ((i : Int) == id) = true := by simpa using c2
                        by_cases c3 : (k : Int) = n
                        · have b3 : ((k : Int) == n) = true := by simpa using c3
                          rw [if_pos ⟨c1, c2, c3⟩] at X
                          clear c1 c2 c3
                          clear hV
                          go_wp2_with fail
                          refine X.mono ?_
                          clear X
                          rintro e w7 ⟨rfl, rfl⟩
                          go_wp2_with fail
                          go_roundw
                          case rel => exact ⟨k + 1, by omega, by go_num, HN.out⟩
                          case measure => simp [intOf]; omega
                        · have b3 : ((k : Int) == n) = false := by simpa using c3
                          rw [if_neg (fun h => c3 h.2.2)] at X
                          clear c1 c2 c3
                          clear hV
                          go_wp2_with fail
                          refine X.mono ?_
                          clear X
                          rintro e w7 ⟨rfl, rfl⟩
                          go_wp2_with fail
                          go_roundw
                          case rel => exact ⟨k + 1, by omega, by go_num, HN.out⟩
                          case measure => simp [intOf]; omega
                      · have b2 : ((i : Int) == id) = false := by simpa using c2
                        rw [if_neg (fun h => c2 h.2.1)] at X
                        clear c1 c2
                        clear hV
                        go_wp2_with fail
                        refine X.mono ?_
                        clear X
                        rintro e w7 ⟨rfl, rfl⟩
                        go_wp2_with fail
                        go_roundw
                        case rel => exact ⟨k + 1, by omega, by go_num, HN.out⟩
                        case measure => simp [intOf]; omega
                    · have b1 : (E == 0) = false := by simpa using c1
                      rw [if_neg (fun h => c1 h.1)] at X
                      clear c1
                      clear hV
                      go_wp2_with fail
                      refine X.mono ?_
                      clear X
                      rintro e w7 ⟨rfl, rfl⟩
                      go_wp2_with fail
                      go_roundw
                      case rel => exact ⟨k + 1, by omega, by go_num, HN.out⟩
                      case measure => simp [intOf]; omega
                  · have d8 : decide ((k : Int) < 8) = false := decide_eq_false (by omega)
                    have X := xvgic hV.out.vx (i : Int) (i64_of (by omega) (by omega))
                    have ik : 0 ≤ (i : Int) ∧ (i : Int) < 6 := by omega
                    have HN : Hid _ := hV.out
                    clear hV
                    cases hh : hasB S2 (i : Int) with
                    | false =>
                      rw [hh] at X
                      go_wp2_with fail
                      refine X.mono ?_
                      clear X
                      rintro e w7 ⟨rfl, rfl⟩
                      go_wp2_with fail
                      go_roundw
                      case rel => exact ⟨i + 1, by omega, by go_num, HN.out⟩
                      case measure => simp [intOf]; omega
                    | true =>
                      obtain ⟨x, hx⟩ := has_iff.1 hh
                      rw [hh, if_pos rfl] at X
                      by_cases c2 : (i : Int) = id
                      · have b2 : ((i : Int) != id) = false := by simpa using c2
                        clear hx hh c2
                        go_wp2_with fail
                        refine X.mono ?_
                        clear X
                        rintro e w7 ⟨rfl, rfl⟩
                        go_wp2_with fail
                        go_roundw
                        case rel => exact ⟨i + 1, by omega, by go_num, HN.out⟩
                        case measure => simp [intOf]; omega
                      · have b2 : ((i : Int) != id) = true := by simpa using c2
                        have hx0 : fnd S.L (i : Int) = some x := by rw [← HM.out (i : Int) c2]; exact hx
                        have Y := all_any wr (p.K (i : Int)) x.vg (HN.out.vx.vg hx)
                        have HC : Hid (∀ wz, Fr none' wr wz → wz.cell? ⟨g2, i, none⟩ = some (.int .i64 ((allL x.vg).length : Int))) := fun wz fz => by
                          have h := (HN.out.keep0 fz).f2.cell (j := i) h6 (has_iff.2 ⟨x, hx0⟩)
                          rw [h]
                          show some (Value.int .i64 ((allL (vgI S (i : Int))).length : Int)) = _
                          rw [vg_some hx0]
                        have eL : (((allL x.vg).length : Int) != ((allL x.vg).length : Int)) = false := by simp
                        clear hx hh c2 hx0
                        go_wp2_with fail
                        refine X.mono ?_
                        clear X
                        rintro e w7 ⟨rfl, rfl⟩
                        go_wp2_with fail
                        refine Y.mono ?_
                        clear Y
                        rintro e w8 ⟨v8, rfl, hL, f8⟩
                        obtain ⟨a8, cap8, rfl⟩ := hL.slice
                        have cx := HC.out w8 f8
                        have HN8 : Hid _ := HN.out.keep0 f8
                        clear hL f8 HC
                        go_wp2_with fail
                        go_roundw
                        case rel => exact ⟨i + 1, by omega, by go_num, HN8.out⟩
                        case measure => simp [intOf]; omega
              · have d6 : decide ((i : Int) < 6) = false := decide_eq_false (by omega)
                have HZ : Hid (Fr none' w1 wr) := hV.out.vx.fr
                clear hV
                go_wp2_with fail
                go_ret
                exact ⟨rfl, bel_of (HF.out.trans HZ.out)⟩
    · have uk1 : decide ((k : Int) < (len : Int)) = false := decide_eq_false (by omega)
      have HP : Hid (Vx w1 wr p S none') := hB.vx
      clear hB hb eq
      subst ep
      go_wp2_with fail
      have HA0 := Ar.start HP.out (fun j => ((allL (vgI S (j : Int))).length : Int))
      rw [show Array.replicate 48 (Value.int .u32 0) = #[.int .u32 0, .int .u32 0, .int .u32 0, .int .u32 0, .int .u32 0, .int .u32 0, .int .u32 0, .int .u32 0, .int .u32 0, .int .u32 0, .int .u32 0, .int .u32 0, .int .u32 0, .int .u32 0, .int .u32 0, .int .u32 0, .int .u32 0, .int .u32 0, .int .u32 0, .int .u32 0, .int .u32 0, .int .u32 0, .int .u32 0, .int .u32 0, .int .u32 0, .int .u32 0, .int .u32 0, .int .u32 0, .int .u32 0, .int .u32 0, .int .u32 0, .int .u32 0, .int .u32 0, .int .u32 0, .int .u32 0, .int .u32 0, .int .u32 0, .int .u32 0, .int .u32 0, .int .u32 0, .int .u32 0, .int .u32 0, .int .u32 0, .int .u32 0, .int .u32 0, .int .u32 0, .int .u32 0, .int .u32 0] from rfl, show Array.replicate 6 (Value.int .i64 0) = #[.int .i64 0, .int .i64 0, .int .i64 0, .int .i64 0, .int .i64 0, .int .i64 0] from rfl] at HA0
      have HR : Hid _ := HA0
      clear HA0 HP
      go_wp2_with fail
      generalize ((wr.alloc (.cells #[.int .u32 0, .int .u32 0, .int .u32 0, .int .u32 0, .int .u32 0, .int .u32 0, .int .u32 0, .int .u32 0, .int .u32 0, .int .u32 0, .int .u32 0, .int .u32 0, .int .u32 0, .int .u32 0, .int .u32 0, .int .u32 0, .int .u32 0, .int .u32 0, .int .u32 0, .int .u32 0, .int .u32 0, .int .u32 0, .int .u32 0, .int .u32 0, .int .u32 0, .int .u32 0, .int .u32 0, .int .u32 0, .int .u32 0, .int .u32 0, .int .u32 0, .int .u32 0, .int .u32 0, .int .u32 0, .int .u32 0, .int .u32 0, .int .u32 0, .int .u32 0, .int .u32 0, .int .u32 0, .int .u32 0, .int .u32 0, .int .u32 0, .int .u32 0, .int .u32 0, .int .u32 0, .int .u32 0, .int .u32 0] 42)).alloc (.cells #[.int .i64 0, .int .i64 0, .int .i64 0, .int .i64 0, .int .i64 0, .int .i64 0] 43)) = W2 at *
      generalize wr.heap.size + 1 = g2 at *
      generalize wr.heap.size = g1 at *
      go_loopw [19] (fun a wx => ∃ i : Nat, i ≤ 6 ∧ a = .int .i64 (i : Int) ∧ Hid (Ar w1 wx p S S g1 g2 (fun j => ((allL (vgI S (j : Int))).length : Int)) (i * 8) i)) (fun a _ => 6 - (intOf a).toNat)
      case atStart => exact ⟨0, by omega, rfl, HR.out⟩
      case round =>
        clear HR
        obtain ⟨i, hi, rfl, hV⟩ := hrel
        by_cases h6 : i < 6
        · have d6 : decide ((i : Int) < 6) = true := decide_eq_true (by omega)
          have HV0 : Hid _ := hV.out
          clear hV
          go_wp2_with fail
          go_loopw [20] (fun a wx => ∃ k : Nat, k ≤ 8 ∧ a = .int .i64 (k : Int) ∧ Hid (Ar w1 wx p S S g1 g2 (fun j => ((allL (vgI S (j : Int))).length : Int)) (i * 8 + k) i)) (fun a _ => 8 - (intOf a).toNat)
          case atStart => exact ⟨0, by omega, rfl, HV0.out⟩
          case round =>
            clear HV0
            obtain ⟨k, hk, rfl, hV⟩ := hrel
            by_cases h8 : k < 8
            · have d8 : decide ((k : Int) < 8) = true := decide_eq_true (by omega)
              have X := xread hV.out.vx (i : Int) (k : Int) (i64_of (by omega) (by omega))
              obtain ⟨⟨x0, cx⟩, zx⟩ := hV.out.f1.some (j := i * 8 + k) (by omega)
              have HN : Hid (Ar w1 (wr.setCell ⟨g1, i * 8 + k, none⟩ (.int .u32 (reaW S (i : Int) (k : Int)))) p S S g1 g2 (fun j => ((allL (vgI S (j : Int))).length : Int)) (i * 8 + k + 1) i) := hV.out.set1 (by omega) (by unfold FB; rw [show (i * 8 + k) / 8 = i by omega, show (i * 8 + k) % 8 = k by omega])
              have ik : 0 ≤ (i : Int) ∧ (i : Int) < 6 := by omega
              have kk : 0 ≤ (k : Int) ∧ (k : Int) < 8 := by omega
              clear hV
              go_wp2_with fail
              refine X.mono ?_
              clear X
              rintro e w5 ⟨rfl, rfl⟩
              go_wp2_with fail
              go_roundw
              case rel => exact ⟨k + 1, by omega, by go_num, HN.out⟩
              case measure => simp [intOf]; omega
            · obtain ⟨e8, he8⟩ : ∃ e8, e8 = k := ⟨_, rfl⟩
              have hk8 : k = 8 := by omega
              have d8 : decide ((k : Int) < 8) = false := decide_eq_false (by omega)
              have X := xvgic hV.out.vx (i : Int) (i64_of (by omega) (by omega))
              obtain ⟨⟨x0, cx⟩, zx⟩ := hV.out.f2.some (j := i) (by omega)
              have ik : 0 ≤ (i : Int) ∧ (i : Int) < 6 := by omega
              have HW : Hid (Ar w1 wr p S S g1 g2 (fun j => ((allL (vgI S (j : Int))).length : Int)) ((i + 1) * 8) i) := by
                have h := hV.out
                rw [hk8] at h
                rw [Nat.succ_mul]
                exact h
              clear hV he8 e8
              cases hh : hasB S (i : Int) with
              | false =>
                have HN : Hid _ := HW.out.skip2 (by rw [hh]; decide)
                rw [hh] at X
                go_wp2_with fail
                refine X.mono ?_
                clear X
                rintro e w5 ⟨rfl, rfl⟩
                go_wp2_with fail
                go_roundw
                case rel => exact ⟨i + 1, by omega, by go_num, HN.out⟩
                case measure => simp [intOf]; omega
              | true =>
                obtain ⟨x, hx⟩ := has_iff.1 hh
                rw [hh, if_pos rfl] at X
                have Y := all_any wr (p.K (i : Int)) x.vg (HW.out.vx.vg hx)
                have HL : Hid (vgI S (i : Int) = x.vg) := vg_some hx
                clear hx hh
                go_wp2_with fail
                refine X.mono ?_
                clear X
                rintro e w5 ⟨rfl, rfl⟩
                go_wp2_with fail
                refine Y.mono ?_
                clear Y
                rintro e w6 ⟨v6, rfl, hL, f6⟩
                obtain ⟨a6, cap6, rfl⟩ := hL.slice
                have HW6 := HW.out.keep0 f6
                obtain ⟨⟨x1, cx1⟩, zx1⟩ := HW6.f2.some (j := i) (by omega)
                have HN : Hid (Ar w1 (w6.setCell ⟨g2, i, none⟩ (.int .i64 ((allL x.vg).length : Int))) p S S g1 g2 (fun j => ((allL (vgI S (j : Int))).length : Int)) ((i + 1) * 8) (i + 1)) := HW6.set2 (by omega) (by show ((allL x.vg).length : Int) = ((allL (vgI S (i : Int))).length : Int); rw [HL.out])
                clear HW6 hL f6 cx zx
                go_wp2_with fail
                go_roundw
                case rel => exact ⟨i + 1, by omega, by go_num, HN.out⟩
                case measure => simp [intOf]; omega
        · have d6 : decide ((i : Int) < 6) = false := decide_eq_false (by omega)
          have HV0 : Hid (Ar w1 wr p S S g1 g2 (fun j => ((allL (vgI S (j : Int))).length : Int)) 48 6) := by
            have h := hV.out
            have : i = 6 := by omega
            subst this
            exact h
          have X := xwrite HV0.out.vx id n v HID.out
          clear hV
          go_wp2_with fail
          refine X.mono ?_
          clear X
          rintro e w5 ⟨rfl, v5, f5⟩
          have HV5 : Hid (Ar w1 w5 p (wriS S id n v) S g1 g2 (fun j => ((allL (vgI S (j : Int))).length : Int)) 48 6) := HV0.out.turn v5 f5
          clear v5 f5 HV0
          have X := xinject HV5.out.vx id irq 5 true HID.out
          go_wp2_with fail
          refine X.mono ?_
          clear X
          rintro e w6 ⟨rfl, v6, f6⟩
          have HV6 : Hid (Ar w1 w6 p (ijS (wriS S id n v) id irq 5 true) S g1 g2 (fun j => ((allL (vgI S (j : Int))).length : Int)) 48 6) := HV5.out.turn v6 f6
          clear v6 f6 HV5
          have HO : Hid (∀ i k : Nat, k < 8 → reaW (ijS (wriS S id n v) id irq 5 true) (i : Int) (k : Int) = if wriE S id n = 0 ∧ (i : Int) = id ∧ (k : Int) = n then v else FB S (i * 8 + k)) := fun i k hk => by
            rw [rea_rg _ _ hk, own_rg]
            unfold FB
            rw [show (i * 8 + k) / 8 = i by omega, show (i * 8 + k) % 8 = k by omega, rea_rg _ _ hk]
            split <;> rfl
          have HM : Hid (∀ i : Int, i ≠ id → fnd (ijS (wriS S id n v) id irq 5 true).L i = fnd S.L i) := fun i hi => own_vg S id n v irq 5 i true hi
          generalize ijS (wriS S id n v) id irq 5 true = S2 at *
          generalize wriE S id n = E at *
          go_wp2_with fail
          go_loopw [26] (fun a wx => ∃ i : Nat, i ≤ 6 ∧ a = .int .i64 (i : Int) ∧ Hid (Ar w1 wx p S2 S g1 g2 (fun j => ((allL (vgI S (j : Int))).length : Int)) 48 6)) (fun a _ => 6 - (intOf a).toNat)
          case atStart => exact ⟨0, by omega, rfl, HV6.out⟩
          case round =>
            clear HV6
            obtain ⟨i, hi, rfl, hV⟩ := hrel
            by_cases h6 : i < 6
            · have d6 : decide ((i : Int) < 6) = true := decide_eq_true (by omega)
              have HV0 : Hid _ := hV.out
              clear hV
              go_wp2_with fail
              go_loopw [27] (fun a wx => ∃ k : Nat, k ≤ 8 ∧ a = .int .i64 (k : Int) ∧ Hid (Ar w1 wx p S2 S g1 g2 (fun j => ((allL (vgI S (j : Int))).length : Int)) 48 6)) (fun a _ => 8 - (intOf a).toNat)
              case atStart => exact ⟨0, by omega, rfl, HV0.out⟩
              case round =>
                clear HV0
                obtain ⟨k, hk, rfl, hV⟩ := hrel
                by_cases h8 : k < 8
                · have d8 : decide ((k : Int) < 8) = true := decide_eq_true (by omega)
                  have X := xread hV.out.vx (i : Int) (k : Int) (i64_of (by omega) (by omega))
                  have cx := hV.out.f1.cell (j := i * 8 + k) (by omega) trivial
                  rw [HO.out i k h8] at X
                  have HN : Hid _ := hV.out
                  have ik : 0 ≤ (i : Int) ∧ (i : Int) < 6 := by omega
                  have kk : 0 ≤ (k : Int) ∧ (k : Int) < 8 := by omega
                  generalize FB S (i * 8 + k) = f0 at *
                  have eF : (f0 != f0) = false := by simp
                  have eV : (v != v) = false := by simp
                  by_cases c1 : E = 0
                  · have b1 : (E == 0) = true := by simpa using c1
                    by_cases c2 : (i : Int) = id
                    · have b2 : ((i : Int) == id) = true := by simpa using c2
                      by_cases c3 : (k : Int) = n
                      · have b3 : ((k : Int) == n) = true := by simpa using c3
                        rw [if_pos ⟨c1, c2, c3⟩] at X
                        clear c1 c2 c3
                        clear hV
                        go_wp2_with fail
                        refine X.mono ?_
                        clear X
                        rintro e w7 ⟨rfl, rfl⟩
                        go_wp2_with fail
                        go_roundw
                        case rel => exact ⟨k + 1, by omega, by go_num, HN.out⟩
                        case measure => simp [intOf]; omega
                      · have b3 : ((k : Int) == n) = false := by simpa using c3
                        rw [if_neg (fun h => c3 h.2.2)] at X
                        clear c1 c2 c3
                        clear hV
                        go_wp2_with fail
                        refine X.mono ?_
                        clear X
                        rintro e w7 ⟨rfl, rfl⟩
                        go_wp2_with fail
                        go_roundw
                        case rel => exact ⟨k + 1, by omega, by go_num, HN.out⟩
                        case measure => simp [intOf]; omega
                    · have b2 : ((i : Int) == id) = false := by simpa using c2
                      rw [if_neg (fun h => c2 h.2.1)] at X
                      clear c1 c2
                      clear hV
                      go_wp2_with fail
                      refine X.mono ?_
                      clear X
                      rintro e w7 ⟨rfl, rfl⟩
                      go_wp2_with fail
                      go_roundw
                      case rel => exact ⟨k + 1, by omega, by go_num, HN.out⟩
                      case measure => simp [intOf]; omega
                  · have b1 : (E == 0) = false := by simpa using c1
                    rw [if_neg (fun h => c1 h.1)] at X
                    clear c1
                    clear hV
                    go_wp2_with fail
                    refine X.mono ?_
                    clear X
                    rintro e w7 ⟨rfl, rfl⟩
                    go_wp2_with fail
                    go_roundw
                    case rel => exact ⟨k + 1, by omega, by go_num, HN.out⟩
                    case measure => simp [intOf]; omega
                · have d8 : decide ((k : Int) < 8) = false := decide_eq_false (by omega)
                  have X := xvgic hV.out.vx (i : Int) (i64_of (by omega) (by omega))
                  have ik : 0 ≤ (i : Int) ∧ (i : Int) < 6 := by omega
                  have HN : Hid _ := hV.out
                  clear hV
                  cases hh : hasB S2 (i : Int) with
                  | false =>
                    rw [hh] at X
                    go_wp2_with fail
                    refine X.mono ?_
                    clear X
                    rintro e w7 ⟨rfl, rfl⟩
                    go_wp2_with fail
                    go_roundw
                    case rel => exact ⟨i + 1, by omega, by go_num, HN.out⟩
                    case measure => simp [intOf]; omega
                  | true =>
                    obtain ⟨x, hx⟩ := has_iff.1 hh
                    rw [hh, if_pos rfl] at X
                    by_cases c2 : (i : Int) = id
                    · have b2 : ((i : Int) != id) = false := by simpa using c2
                      clear hx hh c2
                      go_wp2_with fail
                      refine X.mono ?_
                      clear X
                      rintro e w7 ⟨rfl, rfl⟩
                      go_wp2_with fail
                      go_roundw
                      case rel => exact ⟨i + 1, by omega, by go_num, HN.out⟩
                      case measure => simp [intOf]; omega
                    · have b2 : ((i : Int) != id) = true := by simpa using c2
                      have hx0 : fnd S.L (i : Int) = some x := by rw [← HM.out (i : Int) c2]; exact hx
                      have Y := all_any wr (p.K (i : Int)) x.vg (HN.out.vx.vg hx)
                      have HC : Hid (∀ wz, Fr none' wr wz → wz.cell? ⟨g2, i, none⟩ = some (.int .i64 ((allL x.vg).length : Int))) := fun wz fz => by
                        have h := (HN.out.keep0 fz).f2.cell (j := i) h6 (has_iff.2 ⟨x, hx0⟩)
                        rw [h]
                        show some (Value.int .i64 ((allL (vgI S (i : Int))).length : Int)) = _
                        rw [vg_some hx0]
                      have eL : (((allL x.vg).length : Int) != ((allL x.vg).length : Int)) = false := by simp
                      clear hx hh c2 hx0
                      go_wp2_with fail
                      refine X.mono ?_
                      clear X
                      rintro e w7 ⟨rfl, rfl⟩
                      go_wp2_with fail
                      refine Y.mono ?_
                      clear Y
                      rintro e w8 ⟨v8, rfl, hL, f8⟩
                      obtain ⟨a8, cap8, rfl⟩ := hL.slice
                      have cx := HC.out w8 f8
                      have HN8 : Hid _ := HN.out.keep0 f8
                      clear hL f8 HC
                      go_wp2_with fail
                      go_roundw
                      case rel => exact ⟨i + 1, by omega, by go_num, HN8.out⟩
                      case measure => simp [intOf]; omega
            · have d6 : decide ((i : Int) < 6) = false := decide_eq_false (by omega)
              have HZ : Hid (Fr none' w1 wr) := hV.out.vx.fr
              clear hV
              go_wp2_with fail
              go_ret
              exact ⟨rfl, bel_of (HF.out.trans HZ.out)⟩

end Go.Proofs.Ytpgikkdbmkjpaaa
