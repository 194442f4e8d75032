/-
  TlbOnce over the translation: whatever acts came in, the law returns true, and nothing old turns. No statement is proved here.
-/
import Derived.Test.YtkmpmjjjklfalaaTlbLast
namespace Go.Proofs.Ytkmpmjjjklfalaa
open Go.RowKit

set_option maxRecDepth 100000 in
set_option maxHeartbeats 16000000 in
theorem once_row (a0 : Option Addr) (len cap : Nat) (w : World) (hl : len ≤ 9223372036854775807) (ha : Acts w a0 len) :
    Calls Try.prog 5 #[.slice a0 len cap] w fun e w' => e = .returned (.bool true) ∧ Fr none' w w' := by
  have HA : Hid (Acts w a0 len) := ha
  clear ha
  have heq := eq_line
  go_enter Try.func5, Try.ntmps5
  go_wp2_with fail
  refine (awake_any _).mono ?_
  rintro e w1 ⟨rfl, f1⟩
  go_wp2_with fail
  refine (new_any _).mono ?_
  rintro e w2 ⟨bt, rfl, hb, f2, t2⟩
  replace f2 := f1.trans f2
  replace hb := Nat.le_trans f1.size hb
  have p2 := pair_new f2 hb t2 (.cells (Array.replicate 42 (.int .i64 0)) 31) rfl
  replace f2 := f2.alloc (.cells (Array.replicate 42 (.int .i64 0)) 31)
  clear f1 t2
  go_wp2_with fail
  go_loopw [6, 7] (fun v q wr => ∃ (k : Nat) (T : Nat → Ln) (fo mi : Int) (n : Nat) (Fs : Nat → Ln), k ≤ len ∧ k ≤ 100 ∧ q = .int .i64 k ∧ Fr none' w wr ∧ Pair wr w.heap.size bt w2.heap.size T fo mi ∧ fo + mi ≤ k ∧ Own wr w.heap.size v n Fs ∧ n ≤ k ∧ Hid (Lastly T n Fs)) (fun _ q _ => 100 - (intOf q).toNat)
  case atStart => exact ⟨0, fun _ => zl, 0, 0, 0, fun _ => zl, by omega, by omega, rfl, f2, p2, by omega, own_nil _ _ _, by omega, lastly_zero _⟩
  case round =>
    clear f2 p2
    obtain ⟨k, T, fo, mi, n, Fs, hk1, hk2, rfl, fk, pk, hs, ok, hn, HK⟩ := hrel
    obtain ⟨v, rfl⟩ : ∃ v, v = u6 := ⟨u6, rfl⟩
    by_cases hkl : k < len
    · by_cases hk3 : k < 100
      · obtain ⟨b, o, d, i, x, vm, sp, pg, rfl, hact⟩ := HA.out k hkl
        obtain ⟨c0, c1, c2, c3, c4, c5, c6, c7, c8, c9⟩ := hact.keep fk (fun h => h)
        have i1 : 0 ≤ (k : Int) ∧ (k : Int) < (len : Int) := by omega
        have u1 : decide ((k : Int) < (len : Int)) = true := decide_eq_true (by omega)
        have u2 : decide ((k : Int) < 100) = true := decide_eq_true (by omega)
        clear hact
        by_cases hd : d = 1
        · subst hd
          cases hx : rightL x with
          | false =>
            have n1 : wr.heap.size ≠ bt := Nat.ne_of_gt pk.tlb.lt
            have n2 : wr.heap.size ≠ w2.heap.size := Nat.ne_of_gt pk.ref.lt
            have pa := pk.keep0 ((Fr.refl none' wr).alloc (.cells #[.int .i64 1, .int .i64 i, .int .i64 x.v, .int .i64 x.a, .int .i64 x.p, .int .i64 x.f, .int .i64 x.r, .int .i64 vm, .int .i64 sp, .int .i64 pg] 34))
            have oa := ok.keep0 ((Fr.refl none' wr).alloc (.cells #[.int .i64 1, .int .i64 i, .int .i64 x.v, .int .i64 x.a, .int .i64 x.p, .int .i64 x.f, .int .i64 x.r, .int .i64 vm, .int .i64 sp, .int .i64 pg] 34))
            have ra := row_alloc wr #[.int .i64 1, .int .i64 i, .int .i64 x.v, .int .i64 x.a, .int .i64 x.p, .int .i64 x.f, .int .i64 x.r, .int .i64 vm, .int .i64 sp, .int .i64 pg] 34
            have fa := fk.alloc (.cells #[.int .i64 1, .int .i64 i, .int .i64 x.v, .int .i64 x.a, .int .i64 x.p, .int .i64 x.f, .int .i64 x.r, .int .i64 vm, .int .i64 sp, .int .i64 pg] 34)
            have hb1 := pk.new1
            have hb2 := pk.new2
            clear pk ok fk
            go_wp2_with fail
            refine (does_any _ _ _ _ _ _ _ pa (by omega) 1 i x vm sp pg).mono ?_
            rintro e w5 ⟨rfl, f5, P⟩
            have hsb := step_bounds 1 vm sp pg T
            have O : Own w5 w.heap.size v n Fs := by
              refine oa.keep f5 (fun g hg hs => ?_)
              obtain ⟨csA, hrA, _⟩ := pa.tlb
              obtain ⟨csB, hrB, _⟩ := pa.ref
              rcases hs with e | e
              · subst e; exact oa.apart hrA (by decide) hg
              · subst e; exact oa.apart hrB (by decide) hg
            have rb := ra.keep f5 (fun e => by rcases e with e | e; exact n1 e; exact n2 e)
            have fz := fa.pair f5 hb1 hb2
            clear pa oa ra fa f5 c0 c1 c2 c3 c4 c5 c6 c7 c8 c9
            obtain ⟨k0, k1, k2, k3, k4, k5, k6, k7, k8, k9⟩ := row10 rb
            go_wp2_with fail
            refine (right_any x _).mono ?_
            rintro e w6 ⟨rfl, f6⟩
            replace P := P.keep0 f6
            replace O := O.keep0 f6
            replace rb := rb.keep f6 (fun h => h)
            replace fz := fz.trans f6
            clear f6 k0 k1 k2 k3 k4 k5 k6 k7 k8 k9
            obtain ⟨k0, k1, k2, k3, k4, k5, k6, k7, k8, k9⟩ := row10 rb
            obtain ⟨fo', efo⟩ : ∃ fo', fo' = fo + stepF 1 vm sp pg T := ⟨_, rfl⟩
            obtain ⟨mi', emi⟩ : ∃ mi', mi' = mi + stepM 1 vm sp pg T := ⟨_, rfl⟩
            rw [← efo, ← emi] at P
            have hs' : fo' + mi' ≤ (k : Int) + 1 := by omega
            clear efo emi hsb
            rw [hx]
            have HLs : Hid (Lastly (stepT 1 i x vm sp pg T) n Fs) := lastly_sub HK.out (fun j _ he => sub_step (fun _ _ h => by rw [hx] at h; exact absurd h (by decide)) j he)
            obtain ⟨TT, hTT⟩ : ∃ TT, TT = stepT 1 i x vm sp pg T := ⟨_, rfl⟩
            rw [← hTT] at P HLs
            obtain ⟨vv, hvv⟩ : ∃ vv, vv = v := ⟨_, rfl⟩
            obtain ⟨nn, hnn⟩ : ∃ nn, nn = n := ⟨_, rfl⟩
            obtain ⟨FF, hFF⟩ : ∃ FF, FF = Fs := ⟨_, rfl⟩
            subst hvv hnn hFF
            clear hTT HK
            obtain ⟨w4, rfl⟩ : ∃ w4, w4 = wr := ⟨wr, rfl⟩
            go_wp2_with fail
            refine (lines_any _ _ _ _ _ P.tlb).mono ?_
            rintro e w8 ⟨g, rfl, hg, f8, l8⟩
            replace P := P.keep0 f8
            replace O := O.keep0 f8
            replace fz := fz.trans f8
            clear f8
            go_wp2_with fail
            go_loopw [11] (fun q wr => ∃ j : Nat, j ≤ 8 ∧ q = .int .i64 j ∧ Fr none' w wr ∧ Pair wr w.heap.size bt w2.heap.size TT fo' mi' ∧ Own wr w.heap.size vv nn FF ∧ LineRow wr g 8 8 TT) (fun q _ => 8 - (intOf q).toNat)
            case atStart => exact ⟨0, by omega, rfl, fz, P, O, l8⟩
            case round =>
              clear fz P O l8
              obtain ⟨j, hj, rfl, fj, pj, oj, lj⟩ := hrel
              by_cases hjl : j < 8
              · have y1 : 0 ≤ (j : Int) ∧ (j : Int) < 8 := by omega
                have y2 : decide ((j : Int) < 8) = true := decide_eq_true (by omega)
                obtain ⟨c0, c1, c2, c3, c4⟩ := lj.cells j hjl
                cases he : emp (TT j) with
                | true =>
                  have t0 : ((TT j).v == 0 && ((TT j).a == 0 && ((TT j).p == 0 && ((TT j).f == 0 && (TT j).r == 0)))) = true := he
                  go_wp2_with fail
                  go_roundw
                  case rel => exact ⟨j + 1, by omega, by go_num, fj, pj, oj, lj⟩
                  case measure => simp [intOf]; omega
                | false =>
                  have t0 : ((TT j).v == 0 && ((TT j).a == 0 && ((TT j).p == 0 && ((TT j).f == 0 && (TT j).r == 0)))) = false := he
                  obtain ⟨w6', rfl⟩ : ∃ w6', w6' = wr := ⟨wr, rfl⟩
                  go_wp2_with fail
                  go_loopw [12] (fun q wr => ∃ m : Nat, m ≤ j ∧ q = .int .i64 m ∧ Fr none' w wr ∧ Pair wr w.heap.size bt w2.heap.size TT fo' mi' ∧ Own wr w.heap.size vv nn FF ∧ LineRow wr g 8 8 TT) (fun q _ => j - (intOf q).toNat)
                  case atStart => exact ⟨0, by omega, rfl, fj, pj, oj, lj⟩
                  case round =>
                    clear fj pj oj lj c0 c1 c2 c3 c4
                    obtain ⟨m, hm, rfl, fm, pm, om, lm⟩ := hrel
                    obtain ⟨c0, c1, c2, c3, c4⟩ := lm.cells j hjl
                    by_cases hml : m < j
                    · have y3 : 0 ≤ (m : Int) ∧ (m : Int) < 8 := by omega
                      have y4 : decide ((m : Int) < (j : Int)) = true := decide_eq_true (by omega)
                      obtain ⟨d0, d1, d2, d3, d4⟩ := lm.cells m (by omega)
                      have hky := apart_key pm.good pm.uniq hml hjl he
                      cases t1 : ((TT m).v == (TT j).v) with
                      | false =>
                        go_wp2_with fail
                        go_quiet (fail)
                        have f9 := fm.trans (fr_drewN _ nq)
                        have p9 := pm.keep0 (fr_drewN _ nq)
                        have o9 := om.keep0 (fr_drewN _ nq)
                        have l9 := lm.keep (fr_drewN _ nq) (fun h => h)
                        go_wp2_with fail
                        go_roundw
                        case rel => exact ⟨m + 1, by omega, by go_num, f9, p9, o9, l9⟩
                        case measure => simp [intOf]; omega
                      | true =>
                      cases t2 : ((TT m).a == (TT j).a) with
                      | false =>
                        go_wp2_with fail
                        go_quiet (fail)
                        have f9 := fm.trans (fr_drewN _ nq)
                        have p9 := pm.keep0 (fr_drewN _ nq)
                        have o9 := om.keep0 (fr_drewN _ nq)
                        have l9 := lm.keep (fr_drewN _ nq) (fun h => h)
                        go_wp2_with fail
                        go_roundw
                        case rel => exact ⟨m + 1, by omega, by go_num, f9, p9, o9, l9⟩
                        case measure => simp [intOf]; omega
                      | true =>
                      cases t3 : ((TT m).p == (TT j).p) with
                      | false =>
                        go_wp2_with fail
                        go_quiet (fail)
                        have f9 := fm.trans (fr_drewN _ nq)
                        have p9 := pm.keep0 (fr_drewN _ nq)
                        have o9 := om.keep0 (fr_drewN _ nq)
                        have l9 := lm.keep (fr_drewN _ nq) (fun h => h)
                        go_wp2_with fail
                        go_roundw
                        case rel => exact ⟨m + 1, by omega, by go_num, f9, p9, o9, l9⟩
                        case measure => simp [intOf]; omega
                      | true =>
                        exfalso
                        simp [key, t1, t2, t3] at hky
                    · obtain rfl : m = j := by omega
                      have y4 : decide ((m : Int) < (m : Int)) = false := decide_eq_false (by omega)
                      obtain ⟨ix, hix1, hix2, hix3⟩ := HLs.out m hjl he
                      have HL2 : Hid (FF ix = TT m) := hix2
                      have HL3 : Hid (∀ i', ix < i' → i' < nn → key (FF i') (TT m) = false) := hix3
                      clear hix2 hix3
                      go_wp2_with fail
                      refine (last_own _ _ _ _ _ (TT m) ix om hix1 HL2.out HL3.out (by omega)).mono ?_
                      rintro e w9 ⟨rfl, f9⟩
                      replace pm := pm.keep0 f9
                      replace om := om.keep0 f9
                      replace lm := lm.keep f9 (fun h => h)
                      replace fm := fm.trans f9
                      clear f9 c0 c1 c2 c3 c4
                      go_wp2_with fail
                      go_roundw
                      case rel => exact ⟨m + 1, by omega, by go_num, fm, pm, om, lm⟩
                      case measure => simp [intOf]; omega
              · obtain rfl : j = 8 := by omega
                go_wp2_with fail
                go_roundw
                case rel => exact ⟨k + 1, TT, fo', mi', nn, FF, by omega, by omega, by go_num, fj, pj, by omega, oj, by omega, HLs⟩
                case measure => simp [intOf]; omega
          | true =>
            by_cases h0 : i < 0
            · have u3 : decide (0 ≤ i) = false := decide_eq_false (by omega)
              have n1 : wr.heap.size ≠ bt := Nat.ne_of_gt pk.tlb.lt
              have n2 : wr.heap.size ≠ w2.heap.size := Nat.ne_of_gt pk.ref.lt
              have pa := pk.keep0 ((Fr.refl none' wr).alloc (.cells #[.int .i64 1, .int .i64 i, .int .i64 x.v, .int .i64 x.a, .int .i64 x.p, .int .i64 x.f, .int .i64 x.r, .int .i64 vm, .int .i64 sp, .int .i64 pg] 34))
              have oa := ok.keep0 ((Fr.refl none' wr).alloc (.cells #[.int .i64 1, .int .i64 i, .int .i64 x.v, .int .i64 x.a, .int .i64 x.p, .int .i64 x.f, .int .i64 x.r, .int .i64 vm, .int .i64 sp, .int .i64 pg] 34))
              have ra := row_alloc wr #[.int .i64 1, .int .i64 i, .int .i64 x.v, .int .i64 x.a, .int .i64 x.p, .int .i64 x.f, .int .i64 x.r, .int .i64 vm, .int .i64 sp, .int .i64 pg] 34
              have fa := fk.alloc (.cells #[.int .i64 1, .int .i64 i, .int .i64 x.v, .int .i64 x.a, .int .i64 x.p, .int .i64 x.f, .int .i64 x.r, .int .i64 vm, .int .i64 sp, .int .i64 pg] 34)
              have hb1 := pk.new1
              have hb2 := pk.new2
              clear pk ok fk
              go_wp2_with fail
              refine (does_any _ _ _ _ _ _ _ pa (by omega) 1 i x vm sp pg).mono ?_
              rintro e w5 ⟨rfl, f5, P⟩
              have hsb := step_bounds 1 vm sp pg T
              have O : Own w5 w.heap.size v n Fs := by
                refine oa.keep f5 (fun g hg hs => ?_)
                obtain ⟨csA, hrA, _⟩ := pa.tlb
                obtain ⟨csB, hrB, _⟩ := pa.ref
                rcases hs with e | e
                · subst e; exact oa.apart hrA (by decide) hg
                · subst e; exact oa.apart hrB (by decide) hg
              have rb := ra.keep f5 (fun e => by rcases e with e | e; exact n1 e; exact n2 e)
              have fz := fa.pair f5 hb1 hb2
              clear pa oa ra fa f5 c0 c1 c2 c3 c4 c5 c6 c7 c8 c9
              obtain ⟨k0, k1, k2, k3, k4, k5, k6, k7, k8, k9⟩ := row10 rb
              go_wp2_with fail
              refine (right_any x _).mono ?_
              rintro e w6 ⟨rfl, f6⟩
              replace P := P.keep0 f6
              replace O := O.keep0 f6
              replace rb := rb.keep f6 (fun h => h)
              replace fz := fz.trans f6
              clear f6 k0 k1 k2 k3 k4 k5 k6 k7 k8 k9
              obtain ⟨k0, k1, k2, k3, k4, k5, k6, k7, k8, k9⟩ := row10 rb
              obtain ⟨fo', efo⟩ : ∃ fo', fo' = fo + stepF 1 vm sp pg T := ⟨_, rfl⟩
              obtain ⟨mi', emi⟩ : ∃ mi', mi' = mi + stepM 1 vm sp pg T := ⟨_, rfl⟩
              rw [← efo, ← emi] at P
              have hs' : fo' + mi' ≤ (k : Int) + 1 := by omega
              clear efo emi hsb
              rw [hx]
              have HLs : Hid (Lastly (stepT 1 i x vm sp pg T) n Fs) := lastly_sub HK.out (fun j _ he => sub_step (fun _ h _ => by have := inB_iff.mp h; omega) j he)
              obtain ⟨TT, hTT⟩ : ∃ TT, TT = stepT 1 i x vm sp pg T := ⟨_, rfl⟩
              rw [← hTT] at P HLs
              obtain ⟨vv, hvv⟩ : ∃ vv, vv = v := ⟨_, rfl⟩
              obtain ⟨nn, hnn⟩ : ∃ nn, nn = n := ⟨_, rfl⟩
              obtain ⟨FF, hFF⟩ : ∃ FF, FF = Fs := ⟨_, rfl⟩
              subst hvv hnn hFF
              clear hTT HK
              obtain ⟨w4, rfl⟩ : ∃ w4, w4 = wr := ⟨wr, rfl⟩
              go_wp2_with fail
              refine (lines_any _ _ _ _ _ P.tlb).mono ?_
              rintro e w8 ⟨g, rfl, hg, f8, l8⟩
              replace P := P.keep0 f8
              replace O := O.keep0 f8
              replace fz := fz.trans f8
              clear f8
              go_wp2_with fail
              go_loopw [11] (fun q wr => ∃ j : Nat, j ≤ 8 ∧ q = .int .i64 j ∧ Fr none' w wr ∧ Pair wr w.heap.size bt w2.heap.size TT fo' mi' ∧ Own wr w.heap.size vv nn FF ∧ LineRow wr g 8 8 TT) (fun q _ => 8 - (intOf q).toNat)
              case atStart => exact ⟨0, by omega, rfl, fz, P, O, l8⟩
              case round =>
                clear fz P O l8
                obtain ⟨j, hj, rfl, fj, pj, oj, lj⟩ := hrel
                by_cases hjl : j < 8
                · have y1 : 0 ≤ (j : Int) ∧ (j : Int) < 8 := by omega
                  have y2 : decide ((j : Int) < 8) = true := decide_eq_true (by omega)
                  obtain ⟨c0, c1, c2, c3, c4⟩ := lj.cells j hjl
                  cases he : emp (TT j) with
                  | true =>
                    have t0 : ((TT j).v == 0 && ((TT j).a == 0 && ((TT j).p == 0 && ((TT j).f == 0 && (TT j).r == 0)))) = true := he
                    go_wp2_with fail
                    go_roundw
                    case rel => exact ⟨j + 1, by omega, by go_num, fj, pj, oj, lj⟩
                    case measure => simp [intOf]; omega
                  | false =>
                    have t0 : ((TT j).v == 0 && ((TT j).a == 0 && ((TT j).p == 0 && ((TT j).f == 0 && (TT j).r == 0)))) = false := he
                    obtain ⟨w6', rfl⟩ : ∃ w6', w6' = wr := ⟨wr, rfl⟩
                    go_wp2_with fail
                    go_loopw [12] (fun q wr => ∃ m : Nat, m ≤ j ∧ q = .int .i64 m ∧ Fr none' w wr ∧ Pair wr w.heap.size bt w2.heap.size TT fo' mi' ∧ Own wr w.heap.size vv nn FF ∧ LineRow wr g 8 8 TT) (fun q _ => j - (intOf q).toNat)
                    case atStart => exact ⟨0, by omega, rfl, fj, pj, oj, lj⟩
                    case round =>
                      clear fj pj oj lj c0 c1 c2 c3 c4
                      obtain ⟨m, hm, rfl, fm, pm, om, lm⟩ := hrel
                      obtain ⟨c0, c1, c2, c3, c4⟩ := lm.cells j hjl
                      by_cases hml : m < j
                      · have y3 : 0 ≤ (m : Int) ∧ (m : Int) < 8 := by omega
                        have y4 : decide ((m : Int) < (j : Int)) = true := decide_eq_true (by omega)
                        obtain ⟨d0, d1, d2, d3, d4⟩ := lm.cells m (by omega)
                        have hky := apart_key pm.good pm.uniq hml hjl he
                        cases t1 : ((TT m).v == (TT j).v) with
                        | false =>
                          go_wp2_with fail
                          go_quiet (fail)
                          have f9 := fm.trans (fr_drewN _ nq)
                          have p9 := pm.keep0 (fr_drewN _ nq)
                          have o9 := om.keep0 (fr_drewN _ nq)
                          have l9 := lm.keep (fr_drewN _ nq) (fun h => h)
                          go_wp2_with fail
                          go_roundw
                          case rel => exact ⟨m + 1, by omega, by go_num, f9, p9, o9, l9⟩
                          case measure => simp [intOf]; omega
                        | true =>
                        cases t2 : ((TT m).a == (TT j).a) with
                        | false =>
                          go_wp2_with fail
                          go_quiet (fail)
                          have f9 := fm.trans (fr_drewN _ nq)
                          have p9 := pm.keep0 (fr_drewN _ nq)
                          have o9 := om.keep0 (fr_drewN _ nq)
                          have l9 := lm.keep (fr_drewN _ nq) (fun h => h)
                          go_wp2_with fail
                          go_roundw
                          case rel => exact ⟨m + 1, by omega, by go_num, f9, p9, o9, l9⟩
                          case measure => simp [intOf]; omega
                        | true =>
                        cases t3 : ((TT m).p == (TT j).p) with
                        | false =>
                          go_wp2_with fail
                          go_quiet (fail)
                          have f9 := fm.trans (fr_drewN _ nq)
                          have p9 := pm.keep0 (fr_drewN _ nq)
                          have o9 := om.keep0 (fr_drewN _ nq)
                          have l9 := lm.keep (fr_drewN _ nq) (fun h => h)
                          go_wp2_with fail
                          go_roundw
                          case rel => exact ⟨m + 1, by omega, by go_num, f9, p9, o9, l9⟩
                          case measure => simp [intOf]; omega
                        | true =>
                          exfalso
                          simp [key, t1, t2, t3] at hky
                      · obtain rfl : m = j := by omega
                        have y4 : decide ((m : Int) < (m : Int)) = false := decide_eq_false (by omega)
                        obtain ⟨ix, hix1, hix2, hix3⟩ := HLs.out m hjl he
                        have HL2 : Hid (FF ix = TT m) := hix2
                        have HL3 : Hid (∀ i', ix < i' → i' < nn → key (FF i') (TT m) = false) := hix3
                        clear hix2 hix3
                        go_wp2_with fail
                        refine (last_own _ _ _ _ _ (TT m) ix om hix1 HL2.out HL3.out (by omega)).mono ?_
                        rintro e w9 ⟨rfl, f9⟩
                        replace pm := pm.keep0 f9
                        replace om := om.keep0 f9
                        replace lm := lm.keep f9 (fun h => h)
                        replace fm := fm.trans f9
                        clear f9 c0 c1 c2 c3 c4
                        go_wp2_with fail
                        go_roundw
                        case rel => exact ⟨m + 1, by omega, by go_num, fm, pm, om, lm⟩
                        case measure => simp [intOf]; omega
                · obtain rfl : j = 8 := by omega
                  go_wp2_with fail
                  go_roundw
                  case rel => exact ⟨k + 1, TT, fo', mi', nn, FF, by omega, by omega, by go_num, fj, pj, by omega, oj, by omega, HLs⟩
                  case measure => simp [intOf]; omega
            · by_cases h8 : 8 ≤ i
              · have u3 : decide (0 ≤ i) = true := decide_eq_true (by omega)
                have u4 : decide (i < 8) = false := decide_eq_false (by omega)
                have n1 : wr.heap.size ≠ bt := Nat.ne_of_gt pk.tlb.lt
                have n2 : wr.heap.size ≠ w2.heap.size := Nat.ne_of_gt pk.ref.lt
                have pa := pk.keep0 ((Fr.refl none' wr).alloc (.cells #[.int .i64 1, .int .i64 i, .int .i64 x.v, .int .i64 x.a, .int .i64 x.p, .int .i64 x.f, .int .i64 x.r, .int .i64 vm, .int .i64 sp, .int .i64 pg] 34))
                have oa := ok.keep0 ((Fr.refl none' wr).alloc (.cells #[.int .i64 1, .int .i64 i, .int .i64 x.v, .int .i64 x.a, .int .i64 x.p, .int .i64 x.f, .int .i64 x.r, .int .i64 vm, .int .i64 sp, .int .i64 pg] 34))
                have ra := row_alloc wr #[.int .i64 1, .int .i64 i, .int .i64 x.v, .int .i64 x.a, .int .i64 x.p, .int .i64 x.f, .int .i64 x.r, .int .i64 vm, .int .i64 sp, .int .i64 pg] 34
                have fa := fk.alloc (.cells #[.int .i64 1, .int .i64 i, .int .i64 x.v, .int .i64 x.a, .int .i64 x.p, .int .i64 x.f, .int .i64 x.r, .int .i64 vm, .int .i64 sp, .int .i64 pg] 34)
                have hb1 := pk.new1
                have hb2 := pk.new2
                clear pk ok fk
                go_wp2_with fail
                refine (does_any _ _ _ _ _ _ _ pa (by omega) 1 i x vm sp pg).mono ?_
                rintro e w5 ⟨rfl, f5, P⟩
                have hsb := step_bounds 1 vm sp pg T
                have O : Own w5 w.heap.size v n Fs := by
                  refine oa.keep f5 (fun g hg hs => ?_)
                  obtain ⟨csA, hrA, _⟩ := pa.tlb
                  obtain ⟨csB, hrB, _⟩ := pa.ref
                  rcases hs with e | e
                  · subst e; exact oa.apart hrA (by decide) hg
                  · subst e; exact oa.apart hrB (by decide) hg
                have rb := ra.keep f5 (fun e => by rcases e with e | e; exact n1 e; exact n2 e)
                have fz := fa.pair f5 hb1 hb2
                clear pa oa ra fa f5 c0 c1 c2 c3 c4 c5 c6 c7 c8 c9
                obtain ⟨k0, k1, k2, k3, k4, k5, k6, k7, k8, k9⟩ := row10 rb
                go_wp2_with fail
                refine (right_any x _).mono ?_
                rintro e w6 ⟨rfl, f6⟩
                replace P := P.keep0 f6
                replace O := O.keep0 f6
                replace rb := rb.keep f6 (fun h => h)
                replace fz := fz.trans f6
                clear f6 k0 k1 k2 k3 k4 k5 k6 k7 k8 k9
                obtain ⟨k0, k1, k2, k3, k4, k5, k6, k7, k8, k9⟩ := row10 rb
                obtain ⟨fo', efo⟩ : ∃ fo', fo' = fo + stepF 1 vm sp pg T := ⟨_, rfl⟩
                obtain ⟨mi', emi⟩ : ∃ mi', mi' = mi + stepM 1 vm sp pg T := ⟨_, rfl⟩
                rw [← efo, ← emi] at P
                have hs' : fo' + mi' ≤ (k : Int) + 1 := by omega
                clear efo emi hsb
                rw [hx]
                have HLs : Hid (Lastly (stepT 1 i x vm sp pg T) n Fs) := lastly_sub HK.out (fun j _ he => sub_step (fun _ h _ => by have := inB_iff.mp h; omega) j he)
                obtain ⟨TT, hTT⟩ : ∃ TT, TT = stepT 1 i x vm sp pg T := ⟨_, rfl⟩
                rw [← hTT] at P HLs
                obtain ⟨vv, hvv⟩ : ∃ vv, vv = v := ⟨_, rfl⟩
                obtain ⟨nn, hnn⟩ : ∃ nn, nn = n := ⟨_, rfl⟩
                obtain ⟨FF, hFF⟩ : ∃ FF, FF = Fs := ⟨_, rfl⟩
                subst hvv hnn hFF
                clear hTT HK
                obtain ⟨w4, rfl⟩ : ∃ w4, w4 = wr := ⟨wr, rfl⟩
                go_wp2_with fail
                refine (lines_any _ _ _ _ _ P.tlb).mono ?_
                rintro e w8 ⟨g, rfl, hg, f8, l8⟩
                replace P := P.keep0 f8
                replace O := O.keep0 f8
                replace fz := fz.trans f8
                clear f8
                go_wp2_with fail
                go_loopw [11] (fun q wr => ∃ j : Nat, j ≤ 8 ∧ q = .int .i64 j ∧ Fr none' w wr ∧ Pair wr w.heap.size bt w2.heap.size TT fo' mi' ∧ Own wr w.heap.size vv nn FF ∧ LineRow wr g 8 8 TT) (fun q _ => 8 - (intOf q).toNat)
                case atStart => exact ⟨0, by omega, rfl, fz, P, O, l8⟩
                case round =>
                  clear fz P O l8
                  obtain ⟨j, hj, rfl, fj, pj, oj, lj⟩ := hrel
                  by_cases hjl : j < 8
                  · have y1 : 0 ≤ (j : Int) ∧ (j : Int) < 8 := by omega
                    have y2 : decide ((j : Int) < 8) = true := decide_eq_true (by omega)
                    obtain ⟨c0, c1, c2, c3, c4⟩ := lj.cells j hjl
                    cases he : emp (TT j) with
                    | true =>
                      have t0 : ((TT j).v == 0 && ((TT j).a == 0 && ((TT j).p == 0 && ((TT j).f == 0 && (TT j).r == 0)))) = true := he
                      go_wp2_with fail
                      go_roundw
                      case rel => exact ⟨j + 1, by omega, by go_num, fj, pj, oj, lj⟩
                      case measure => simp [intOf]; omega
                    | false =>
                      have t0 : ((TT j).v == 0 && ((TT j).a == 0 && ((TT j).p == 0 && ((TT j).f == 0 && (TT j).r == 0)))) = false := he
                      obtain ⟨w6', rfl⟩ : ∃ w6', w6' = wr := ⟨wr, rfl⟩
                      go_wp2_with fail
                      go_loopw [12] (fun q wr => ∃ m : Nat, m ≤ j ∧ q = .int .i64 m ∧ Fr none' w wr ∧ Pair wr w.heap.size bt w2.heap.size TT fo' mi' ∧ Own wr w.heap.size vv nn FF ∧ LineRow wr g 8 8 TT) (fun q _ => j - (intOf q).toNat)
                      case atStart => exact ⟨0, by omega, rfl, fj, pj, oj, lj⟩
                      case round =>
                        clear fj pj oj lj c0 c1 c2 c3 c4
                        obtain ⟨m, hm, rfl, fm, pm, om, lm⟩ := hrel
                        obtain ⟨c0, c1, c2, c3, c4⟩ := lm.cells j hjl
                        by_cases hml : m < j
                        · have y3 : 0 ≤ (m : Int) ∧ (m : Int) < 8 := by omega
                          have y4 : decide ((m : Int) < (j : Int)) = true := decide_eq_true (by omega)
                          obtain ⟨d0, d1, d2, d3, d4⟩ := lm.cells m (by omega)
                          have hky := apart_key pm.good pm.uniq hml hjl he
                          cases t1 : ((TT m).v == (TT j).v) with
                          | false =>
                            go_wp2_with fail
                            go_quiet (fail)
                            have f9 := fm.trans (fr_drewN _ nq)
                            have p9 := pm.keep0 (fr_drewN _ nq)
                            have o9 := om.keep0 (fr_drewN _ nq)
                            have l9 := lm.keep (fr_drewN _ nq) (fun h => h)
                            go_wp2_with fail
                            go_roundw
                            case rel => exact ⟨m + 1, by omega, by go_num, f9, p9, o9, l9⟩
                            case measure => simp [intOf]; omega
                          | true =>
                          cases t2 : ((TT m).a == (TT j).a) with
                          | false =>
                            go_wp2_with fail
                            go_quiet (fail)
                            have f9 := fm.trans (fr_drewN _ nq)
                            have p9 := pm.keep0 (fr_drewN _ nq)
                            have o9 := om.keep0 (fr_drewN _ nq)
                            have l9 := lm.keep (fr_drewN _ nq) (fun h => h)
                            go_wp2_with fail
                            go_roundw
                            case rel => exact ⟨m + 1, by omega, by go_num, f9, p9, o9, l9⟩
                            case measure => simp [intOf]; omega
                          | true =>
                          cases t3 : ((TT m).p == (TT j).p) with
                          | false =>
                            go_wp2_with fail
                            go_quiet (fail)
                            have f9 := fm.trans (fr_drewN _ nq)
                            have p9 := pm.keep0 (fr_drewN _ nq)
                            have o9 := om.keep0 (fr_drewN _ nq)
                            have l9 := lm.keep (fr_drewN _ nq) (fun h => h)
                            go_wp2_with fail
                            go_roundw
                            case rel => exact ⟨m + 1, by omega, by go_num, f9, p9, o9, l9⟩
                            case measure => simp [intOf]; omega
                          | true =>
                            exfalso
                            simp [key, t1, t2, t3] at hky
                        · obtain rfl : m = j := by omega
                          have y4 : decide ((m : Int) < (m : Int)) = false := decide_eq_false (by omega)
                          obtain ⟨ix, hix1, hix2, hix3⟩ := HLs.out m hjl he
                          have HL2 : Hid (FF ix = TT m) := hix2
                          have HL3 : Hid (∀ i', ix < i' → i' < nn → key (FF i') (TT m) = false) := hix3
                          clear hix2 hix3
                          go_wp2_with fail
                          refine (last_own _ _ _ _ _ (TT m) ix om hix1 HL2.out HL3.out (by omega)).mono ?_
                          rintro e w9 ⟨rfl, f9⟩
                          replace pm := pm.keep0 f9
                          replace om := om.keep0 f9
                          replace lm := lm.keep f9 (fun h => h)
                          replace fm := fm.trans f9
                          clear f9 c0 c1 c2 c3 c4
                          go_wp2_with fail
                          go_roundw
                          case rel => exact ⟨m + 1, by omega, by go_num, fm, pm, om, lm⟩
                          case measure => simp [intOf]; omega
                  · obtain rfl : j = 8 := by omega
                    go_wp2_with fail
                    go_roundw
                    case rel => exact ⟨k + 1, TT, fo', mi', nn, FF, by omega, by omega, by go_num, fj, pj, by omega, oj, by omega, HLs⟩
                    case measure => simp [intOf]; omega
              · have u3 : decide (0 ≤ i) = true := decide_eq_true (by omega)
                have u4 : decide (i < 8) = true := decide_eq_true (by omega)
                obtain ⟨i, rfl⟩ := Int.eq_ofNat_of_zero_le (show 0 ≤ i by omega)
                have n1 : wr.heap.size ≠ bt := Nat.ne_of_gt pk.tlb.lt
                have n2 : wr.heap.size ≠ w2.heap.size := Nat.ne_of_gt pk.ref.lt
                have pa := pk.keep0 ((Fr.refl none' wr).alloc (.cells #[.int .i64 1, .int .i64 i, .int .i64 x.v, .int .i64 x.a, .int .i64 x.p, .int .i64 x.f, .int .i64 x.r, .int .i64 vm, .int .i64 sp, .int .i64 pg] 34))
                have oa := ok.keep0 ((Fr.refl none' wr).alloc (.cells #[.int .i64 1, .int .i64 i, .int .i64 x.v, .int .i64 x.a, .int .i64 x.p, .int .i64 x.f, .int .i64 x.r, .int .i64 vm, .int .i64 sp, .int .i64 pg] 34))
                have ra := row_alloc wr #[.int .i64 1, .int .i64 i, .int .i64 x.v, .int .i64 x.a, .int .i64 x.p, .int .i64 x.f, .int .i64 x.r, .int .i64 vm, .int .i64 sp, .int .i64 pg] 34
                have fa := fk.alloc (.cells #[.int .i64 1, .int .i64 i, .int .i64 x.v, .int .i64 x.a, .int .i64 x.p, .int .i64 x.f, .int .i64 x.r, .int .i64 vm, .int .i64 sp, .int .i64 pg] 34)
                have hb1 := pk.new1
                have hb2 := pk.new2
                clear pk ok fk
                go_wp2_with fail
                refine (does_any _ _ _ _ _ _ _ pa (by omega) 1 i x vm sp pg).mono ?_
                rintro e w5 ⟨rfl, f5, P⟩
                have hsb := step_bounds 1 vm sp pg T
                have O : Own w5 w.heap.size v n Fs := by
                  refine oa.keep f5 (fun g hg hs => ?_)
                  obtain ⟨csA, hrA, _⟩ := pa.tlb
                  obtain ⟨csB, hrB, _⟩ := pa.ref
                  rcases hs with e | e
                  · subst e; exact oa.apart hrA (by decide) hg
                  · subst e; exact oa.apart hrB (by decide) hg
                have rb := ra.keep f5 (fun e => by rcases e with e | e; exact n1 e; exact n2 e)
                have fz := fa.pair f5 hb1 hb2
                clear pa oa ra fa f5 c0 c1 c2 c3 c4 c5 c6 c7 c8 c9
                obtain ⟨k0, k1, k2, k3, k4, k5, k6, k7, k8, k9⟩ := row10 rb
                go_wp2_with fail
                refine (right_any x _).mono ?_
                rintro e w6 ⟨rfl, f6⟩
                replace P := P.keep0 f6
                replace O := O.keep0 f6
                replace rb := rb.keep f6 (fun h => h)
                replace fz := fz.trans f6
                clear f6 k0 k1 k2 k3 k4 k5 k6 k7 k8 k9
                obtain ⟨k0, k1, k2, k3, k4, k5, k6, k7, k8, k9⟩ := row10 rb
                obtain ⟨fo', efo⟩ : ∃ fo', fo' = fo + stepF 1 vm sp pg T := ⟨_, rfl⟩
                obtain ⟨mi', emi⟩ : ∃ mi', mi' = mi + stepM 1 vm sp pg T := ⟨_, rfl⟩
                rw [← efo, ← emi] at P
                have hs' : fo' + mi' ≤ (k : Int) + 1 := by omega
                clear efo emi hsb
                rw [hx]
                have hst : stepT 1 (i : Int) x vm sp pg T = filled T i x := by
                  have hi : inB (i : Int) 0 7 = true := inB_iff.mpr (by omega)
                  simp [stepT, fillT, hi, hx]
                rw [hst] at P
                have HLs : Hid (Lastly (filled T i x) (n + 1) (upd Fs n x)) := lastly_fill HK.out i x
                obtain ⟨TT, hTT⟩ : ∃ TT, TT = filled T i x := ⟨_, rfl⟩
                rw [← hTT] at P HLs
                clear hTT hst HK
                replace P := P.keep0 ((Fr.refl none' w6).alloc (.cells #[.int .i64 x.v, .int .i64 x.a, .int .i64 x.p, .int .i64 x.f, .int .i64 x.r] 28))
                replace O := O.keep0 ((Fr.refl none' w6).alloc (.cells #[.int .i64 x.v, .int .i64 x.a, .int .i64 x.p, .int .i64 x.f, .int .i64 x.r] 28))
                replace fz := fz.alloc (.cells #[.int .i64 x.v, .int .i64 x.a, .int .i64 x.p, .int .i64 x.f, .int .i64 x.r] 28)
                obtain ⟨q0, q1, q2, q3, q4⟩ := row5 (row_alloc w6 #[.int .i64 x.v, .int .i64 x.a, .int .i64 x.p, .int .i64 x.f, .int .i64 x.r] 28)
                obtain ⟨vv, w7, hrun, f7, o7⟩ := append_line _ w.heap.size ⟨w6.heap.size, 0, none⟩ v n Fs x fz.size O (by omega) (by rw [add_lit']; exact q0) (by rw [add_lit']; exact q1) (by rw [add_lit']; exact q2) (by rw [add_lit']; exact q3) (by rw [add_lit']; exact q4)
                have P7 : Pair w7 w.heap.size bt w2.heap.size TT fo' mi' := by
                  obtain ⟨csA, hrA, _⟩ := P.tlb
                  obtain ⟨csB, hrB, _⟩ := P.ref
                  exact ⟨P.new1, P.new2, P.ne, P.tlb.keep f7 (O.apart hrA (by decide)), P.ref.keep f7 (O.apart hrB (by decide)), P.good, P.uniq, P.fo0, P.mi0⟩
                replace fz : Fr none' w w7 := ⟨f7.os.trans fz.os, f7.tape.trans fz.tape, f7.output.trans fz.output, Nat.le_trans fz.size f7.size, fun q hq hn => (f7.block q (Nat.lt_of_lt_of_le hq fz.size) (fun e => by have := O.high q e; omega)).trans (fz.block q hq hn)⟩
                have HR : Hid (_ = _) := hrun
                obtain ⟨nn, hnn⟩ : ∃ nn, nn = n + 1 := ⟨_, rfl⟩
                obtain ⟨FF, hFF⟩ : ∃ FF, FF = upd Fs n x := ⟨_, rfl⟩
                rw [← hnn, ← hFF] at o7 HLs
                have hn2 : nn ≤ k + 1 := by omega
                clear hrun P O f7 q0 q1 q2 q3 q4 hFF hnn
                have P := P7
                have O := o7
                clear P7 o7
                go_wp2_with (at_builtin; refine wpList_append_run rfl _ _ _ rfl _ _ rfl rfl _ _ HR ?_)
                clear HR
                obtain ⟨w4, rfl⟩ : ∃ w4, w4 = wr := ⟨wr, rfl⟩
                go_wp2_with fail
                refine (lines_any _ _ _ _ _ P.tlb).mono ?_
                rintro e w8 ⟨g, rfl, hg, f8, l8⟩
                replace P := P.keep0 f8
                replace O := O.keep0 f8
                replace fz := fz.trans f8
                clear f8
                go_wp2_with fail
                go_loopw [11] (fun q wr => ∃ j : Nat, j ≤ 8 ∧ q = .int .i64 j ∧ Fr none' w wr ∧ Pair wr w.heap.size bt w2.heap.size TT fo' mi' ∧ Own wr w.heap.size vv nn FF ∧ LineRow wr g 8 8 TT) (fun q _ => 8 - (intOf q).toNat)
                case atStart => exact ⟨0, by omega, rfl, fz, P, O, l8⟩
                case round =>
                  clear fz P O l8
                  obtain ⟨j, hj, rfl, fj, pj, oj, lj⟩ := hrel
                  by_cases hjl : j < 8
                  · have y1 : 0 ≤ (j : Int) ∧ (j : Int) < 8 := by omega
                    have y2 : decide ((j : Int) < 8) = true := decide_eq_true (by omega)
                    obtain ⟨c0, c1, c2, c3, c4⟩ := lj.cells j hjl
                    cases he : emp (TT j) with
                    | true =>
                      have t0 : ((TT j).v == 0 && ((TT j).a == 0 && ((TT j).p == 0 && ((TT j).f == 0 && (TT j).r == 0)))) = true := he
                      go_wp2_with fail
                      go_roundw
                      case rel => exact ⟨j + 1, by omega, by go_num, fj, pj, oj, lj⟩
                      case measure => simp [intOf]; omega
                    | false =>
                      have t0 : ((TT j).v == 0 && ((TT j).a == 0 && ((TT j).p == 0 && ((TT j).f == 0 && (TT j).r == 0)))) = false := he
                      obtain ⟨w6', rfl⟩ : ∃ w6', w6' = wr := ⟨wr, rfl⟩
                      go_wp2_with fail
                      go_loopw [12] (fun q wr => ∃ m : Nat, m ≤ j ∧ q = .int .i64 m ∧ Fr none' w wr ∧ Pair wr w.heap.size bt w2.heap.size TT fo' mi' ∧ Own wr w.heap.size vv nn FF ∧ LineRow wr g 8 8 TT) (fun q _ => j - (intOf q).toNat)
                      case atStart => exact ⟨0, by omega, rfl, fj, pj, oj, lj⟩
                      case round =>
                        clear fj pj oj lj c0 c1 c2 c3 c4
                        obtain ⟨m, hm, rfl, fm, pm, om, lm⟩ := hrel
                        obtain ⟨c0, c1, c2, c3, c4⟩ := lm.cells j hjl
                        by_cases hml : m < j
                        · have y3 : 0 ≤ (m : Int) ∧ (m : Int) < 8 := by omega
                          have y4 : decide ((m : Int) < (j : Int)) = true := decide_eq_true (by omega)
                          obtain ⟨d0, d1, d2, d3, d4⟩ := lm.cells m (by omega)
                          have hky := apart_key pm.good pm.uniq hml hjl he
                          cases t1 : ((TT m).v == (TT j).v) with
                          | false =>
                            go_wp2_with fail
                            go_quiet (fail)
                            have f9 := fm.trans (fr_drewN _ nq)
                            have p9 := pm.keep0 (fr_drewN _ nq)
                            have o9 := om.keep0 (fr_drewN _ nq)
                            have l9 := lm.keep (fr_drewN _ nq) (fun h => h)
                            go_wp2_with fail
                            go_roundw
                            case rel => exact ⟨m + 1, by omega, by go_num, f9, p9, o9, l9⟩
                            case measure => simp [intOf]; omega
                          | true =>
                          cases t2 : ((TT m).a == (TT j).a) with
                          | false =>
                            go_wp2_with fail
                            go_quiet (fail)
                            have f9 := fm.trans (fr_drewN _ nq)
                            have p9 := pm.keep0 (fr_drewN _ nq)
                            have o9 := om.keep0 (fr_drewN _ nq)
                            have l9 := lm.keep (fr_drewN _ nq) (fun h => h)
                            go_wp2_with fail
                            go_roundw
                            case rel => exact ⟨m + 1, by omega, by go_num, f9, p9, o9, l9⟩
                            case measure => simp [intOf]; omega
                          | true =>
                          cases t3 : ((TT m).p == (TT j).p) with
                          | false =>
                            go_wp2_with fail
                            go_quiet (fail)
                            have f9 := fm.trans (fr_drewN _ nq)
                            have p9 := pm.keep0 (fr_drewN _ nq)
                            have o9 := om.keep0 (fr_drewN _ nq)
                            have l9 := lm.keep (fr_drewN _ nq) (fun h => h)
                            go_wp2_with fail
                            go_roundw
                            case rel => exact ⟨m + 1, by omega, by go_num, f9, p9, o9, l9⟩
                            case measure => simp [intOf]; omega
                          | true =>
                            exfalso
                            simp [key, t1, t2, t3] at hky
                        · obtain rfl : m = j := by omega
                          have y4 : decide ((m : Int) < (m : Int)) = false := decide_eq_false (by omega)
                          obtain ⟨ix, hix1, hix2, hix3⟩ := HLs.out m hjl he
                          have HL2 : Hid (FF ix = TT m) := hix2
                          have HL3 : Hid (∀ i', ix < i' → i' < nn → key (FF i') (TT m) = false) := hix3
                          clear hix2 hix3
                          go_wp2_with fail
                          refine (last_own _ _ _ _ _ (TT m) ix om hix1 HL2.out HL3.out (by omega)).mono ?_
                          rintro e w9 ⟨rfl, f9⟩
                          replace pm := pm.keep0 f9
                          replace om := om.keep0 f9
                          replace lm := lm.keep f9 (fun h => h)
                          replace fm := fm.trans f9
                          clear f9 c0 c1 c2 c3 c4
                          go_wp2_with fail
                          go_roundw
                          case rel => exact ⟨m + 1, by omega, by go_num, fm, pm, om, lm⟩
                          case measure => simp [intOf]; omega
                  · obtain rfl : j = 8 := by omega
                    go_wp2_with fail
                    go_roundw
                    case rel => exact ⟨k + 1, TT, fo', mi', nn, FF, by omega, by omega, by go_num, fj, pj, by omega, oj, by omega, HLs⟩
                    case measure => simp [intOf]; omega
        · have u3 : (d == 1) = false := beq_eq_false_iff_ne.mpr hd
          have n1 : wr.heap.size ≠ bt := Nat.ne_of_gt pk.tlb.lt
          have n2 : wr.heap.size ≠ w2.heap.size := Nat.ne_of_gt pk.ref.lt
          have pa := pk.keep0 ((Fr.refl none' wr).alloc (.cells #[.int .i64 d, .int .i64 i, .int .i64 x.v, .int .i64 x.a, .int .i64 x.p, .int .i64 x.f, .int .i64 x.r, .int .i64 vm, .int .i64 sp, .int .i64 pg] 34))
          have oa := ok.keep0 ((Fr.refl none' wr).alloc (.cells #[.int .i64 d, .int .i64 i, .int .i64 x.v, .int .i64 x.a, .int .i64 x.p, .int .i64 x.f, .int .i64 x.r, .int .i64 vm, .int .i64 sp, .int .i64 pg] 34))
          have ra := row_alloc wr #[.int .i64 d, .int .i64 i, .int .i64 x.v, .int .i64 x.a, .int .i64 x.p, .int .i64 x.f, .int .i64 x.r, .int .i64 vm, .int .i64 sp, .int .i64 pg] 34
          have fa := fk.alloc (.cells #[.int .i64 d, .int .i64 i, .int .i64 x.v, .int .i64 x.a, .int .i64 x.p, .int .i64 x.f, .int .i64 x.r, .int .i64 vm, .int .i64 sp, .int .i64 pg] 34)
          have hb1 := pk.new1
          have hb2 := pk.new2
          clear pk ok fk
          go_wp2_with fail
          refine (does_any _ _ _ _ _ _ _ pa (by omega) d i x vm sp pg).mono ?_
          rintro e w5 ⟨rfl, f5, P⟩
          have hsb := step_bounds d vm sp pg T
          have O : Own w5 w.heap.size v n Fs := by
            refine oa.keep f5 (fun g hg hs => ?_)
            obtain ⟨csA, hrA, _⟩ := pa.tlb
            obtain ⟨csB, hrB, _⟩ := pa.ref
            rcases hs with e | e
            · subst e; exact oa.apart hrA (by decide) hg
            · subst e; exact oa.apart hrB (by decide) hg
          have rb := ra.keep f5 (fun e => by rcases e with e | e; exact n1 e; exact n2 e)
          have fz := fa.pair f5 hb1 hb2
          clear pa oa ra fa f5 c0 c1 c2 c3 c4 c5 c6 c7 c8 c9
          obtain ⟨k0, k1, k2, k3, k4, k5, k6, k7, k8, k9⟩ := row10 rb
          go_wp2_with fail
          refine (right_any x _).mono ?_
          rintro e w6 ⟨rfl, f6⟩
          replace P := P.keep0 f6
          replace O := O.keep0 f6
          replace rb := rb.keep f6 (fun h => h)
          replace fz := fz.trans f6
          clear f6 k0 k1 k2 k3 k4 k5 k6 k7 k8 k9
          obtain ⟨k0, k1, k2, k3, k4, k5, k6, k7, k8, k9⟩ := row10 rb
          obtain ⟨fo', efo⟩ : ∃ fo', fo' = fo + stepF d vm sp pg T := ⟨_, rfl⟩
          obtain ⟨mi', emi⟩ : ∃ mi', mi' = mi + stepM d vm sp pg T := ⟨_, rfl⟩
          rw [← efo, ← emi] at P
          have hs' : fo' + mi' ≤ (k : Int) + 1 := by omega
          clear efo emi hsb
          have HLs : Hid (Lastly (stepT d i x vm sp pg T) n Fs) := lastly_sub HK.out (fun j _ he => sub_step (fun h _ _ => hd h) j he)
          obtain ⟨TT, hTT⟩ : ∃ TT, TT = stepT d i x vm sp pg T := ⟨_, rfl⟩
          rw [← hTT] at P HLs
          obtain ⟨vv, hvv⟩ : ∃ vv, vv = v := ⟨_, rfl⟩
          obtain ⟨nn, hnn⟩ : ∃ nn, nn = n := ⟨_, rfl⟩
          obtain ⟨FF, hFF⟩ : ∃ FF, FF = Fs := ⟨_, rfl⟩
          subst hvv hnn hFF
          clear hTT HK
          obtain ⟨w4, rfl⟩ : ∃ w4, w4 = wr := ⟨wr, rfl⟩
          go_wp2_with fail
          refine (lines_any _ _ _ _ _ P.tlb).mono ?_
          rintro e w8 ⟨g, rfl, hg, f8, l8⟩
          replace P := P.keep0 f8
          replace O := O.keep0 f8
          replace fz := fz.trans f8
          clear f8
          go_wp2_with fail
          go_loopw [11] (fun q wr => ∃ j : Nat, j ≤ 8 ∧ q = .int .i64 j ∧ Fr none' w wr ∧ Pair wr w.heap.size bt w2.heap.size TT fo' mi' ∧ Own wr w.heap.size vv nn FF ∧ LineRow wr g 8 8 TT) (fun q _ => 8 - (intOf q).toNat)
          case atStart => exact ⟨0, by omega, rfl, fz, P, O, l8⟩
          case round =>
            clear fz P O l8
            obtain ⟨j, hj, rfl, fj, pj, oj, lj⟩ := hrel
            by_cases hjl : j < 8
            · have y1 : 0 ≤ (j : Int) ∧ (j : Int) < 8 := by omega
              have y2 : decide ((j : Int) < 8) = true := decide_eq_true (by omega)
              obtain ⟨c0, c1, c2, c3, c4⟩ := lj.cells j hjl
              cases he : emp (TT j) with
              | true =>
                have t0 : ((TT j).v == 0 && ((TT j).a == 0 && ((TT j).p == 0 && ((TT j).f == 0 && (TT j).r == 0)))) = true := he
                go_wp2_with fail
                go_roundw
                case rel => exact ⟨j + 1, by omega, by go_num, fj, pj, oj, lj⟩
                case measure => simp [intOf]; omega
              | false =>
                have t0 : ((TT j).v == 0 && ((TT j).a == 0 && ((TT j).p == 0 && ((TT j).f == 0 && (TT j).r == 0)))) = false := he
                obtain ⟨w6', rfl⟩ : ∃ w6', w6' = wr := ⟨wr, rfl⟩
                go_wp2_with fail
                go_loopw [12] (fun q wr => ∃ m : Nat, m ≤ j ∧ q = .int .i64 m ∧ Fr none' w wr ∧ Pair wr w.heap.size bt w2.heap.size TT fo' mi' ∧ Own wr w.heap.size vv nn FF ∧ LineRow wr g 8 8 TT) (fun q _ => j - (intOf q).toNat)
                case atStart => exact ⟨0, by omega, rfl, fj, pj, oj, lj⟩
                case round =>
                  clear fj pj oj lj c0 c1 c2 c3 c4
                  obtain ⟨m, hm, rfl, fm, pm, om, lm⟩ := hrel
                  obtain ⟨c0, c1, c2, c3, c4⟩ := lm.cells j hjl
                  by_cases hml : m < j
                  · have y3 : 0 ≤ (m : Int) ∧ (m : Int) < 8 := by omega
                    have y4 : decide ((m : Int) < (j : Int)) = true := decide_eq_true (by omega)
                    obtain ⟨d0, d1, d2, d3, d4⟩ := lm.cells m (by omega)
                    have hky := apart_key pm.good pm.uniq hml hjl he
                    cases t1 : ((TT m).v == (TT j).v) with
                    | false =>
                      go_wp2_with fail
                      go_quiet (fail)
                      have f9 := fm.trans (fr_drewN _ nq)
                      have p9 := pm.keep0 (fr_drewN _ nq)
                      have o9 := om.keep0 (fr_drewN _ nq)
                      have l9 := lm.keep (fr_drewN _ nq) (fun h => h)
                      go_wp2_with fail
                      go_roundw
                      case rel => exact ⟨m + 1, by omega, by go_num, f9, p9, o9, l9⟩
                      case measure => simp [intOf]; omega
                    | true =>
                    cases t2 : ((TT m).a == (TT j).a) with
                    | false =>
                      go_wp2_with fail
                      go_quiet (fail)
                      have f9 := fm.trans (fr_drewN _ nq)
                      have p9 := pm.keep0 (fr_drewN _ nq)
                      have o9 := om.keep0 (fr_drewN _ nq)
                      have l9 := lm.keep (fr_drewN _ nq) (fun h => h)
                      go_wp2_with fail
                      go_roundw
                      case rel => exact ⟨m + 1, by omega, by go_num, f9, p9, o9, l9⟩
                      case measure => simp [intOf]; omega
                    | true =>
                    cases t3 : ((TT m).p == (TT j).p) with
                    | false =>
                      go_wp2_with fail
                      go_quiet (fail)
                      have f9 := fm.trans (fr_drewN _ nq)
                      have p9 := pm.keep0 (fr_drewN _ nq)
                      have o9 := om.keep0 (fr_drewN _ nq)
                      have l9 := lm.keep (fr_drewN _ nq) (fun h => h)
                      go_wp2_with fail
                      go_roundw
                      case rel => exact ⟨m + 1, by omega, by go_num, f9, p9, o9, l9⟩
                      case measure => simp [intOf]; omega
                    | true =>
                      exfalso
                      simp [key, t1, t2, t3] at hky
                  · obtain rfl : m = j := by omega
                    have y4 : decide ((m : Int) < (m : Int)) = false := decide_eq_false (by omega)
                    obtain ⟨ix, hix1, hix2, hix3⟩ := HLs.out m hjl he
                    have HL2 : Hid (FF ix = TT m) := hix2
                    have HL3 : Hid (∀ i', ix < i' → i' < nn → key (FF i') (TT m) = false) := hix3
                    clear hix2 hix3
                    go_wp2_with fail
                    refine (last_own _ _ _ _ _ (TT m) ix om hix1 HL2.out HL3.out (by omega)).mono ?_
                    rintro e w9 ⟨rfl, f9⟩
                    replace pm := pm.keep0 f9
                    replace om := om.keep0 f9
                    replace lm := lm.keep f9 (fun h => h)
                    replace fm := fm.trans f9
                    clear f9 c0 c1 c2 c3 c4
                    go_wp2_with fail
                    go_roundw
                    case rel => exact ⟨m + 1, by omega, by go_num, fm, pm, om, lm⟩
                    case measure => simp [intOf]; omega
            · obtain rfl : j = 8 := by omega
              go_wp2_with fail
              go_roundw
              case rel => exact ⟨k + 1, TT, fo', mi', nn, FF, by omega, by omega, by go_num, fj, pj, by omega, oj, by omega, HLs⟩
              case measure => simp [intOf]; omega
      · have u1 : decide ((k : Int) < (len : Int)) = true := decide_eq_true (by omega)
        have u2 : decide ((k : Int) < 100) = false := decide_eq_false (by omega)
        go_wp2_with fail
        go_ret
        exact ⟨rfl, fk⟩
    · have u1 : decide ((k : Int) < (len : Int)) = false := decide_eq_false (by omega)
      go_wp2_with fail
      go_ret
      exact ⟨rfl, fk⟩

theorem once_any (a0 : Option Addr) (len cap : Nat) (w : World) (hl : len ≤ 9223372036854775807) (ha : Acts w a0 len) :
    Calls Try.prog 5 #[.slice a0 len cap] w fun e w' => e = .returned (.bool true) ∧ Below w.heap.size w w' :=
  (once_row a0 len cap w hl ha).mono fun _ _ ⟨he, hf⟩ => ⟨he, hf.below (Nat.le_refl _) (fun _ h => h.elim)⟩

end Go.Proofs.Ytkmpmjjjklfalaa
