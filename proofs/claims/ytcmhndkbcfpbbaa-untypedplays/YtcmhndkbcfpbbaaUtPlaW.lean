/-
  The law UntypedPlays walked. No statement is proved here.
-/
import Derived.Test.YtcmhndkbcfpbbaaUtNew
import Derived.Test.YtcmhndkbcfpbbaaUtReg
import Derived.Deep.CutBlock
import Derived.Deep.CutRange
namespace Go.Proofs.Ytcmhndkbcfpbbaa
open Go.RowKit

theorem BoAt.regions {w0 w : World} {bp bq pm bm pr br : Nat} {L M : List Rg} {bs cs : List UInt8} (h : BoAt w0 w bp bq pm bm pr br L M bs cs) : Calls Try.prog 14 #[.pointer (some ⟨bp, 0, none⟩)] w fun e w' => ∃ v, e = .returned v ∧ RgS w' w.heap.size v L ∧ Fr none' w w' := by
  obtain ⟨p, q, rfl, rfl, a1, _⟩ := id h.ex
  exact regions_any w p L a1
theorem BoAt.rows {w0 w : World} {bp bq pm bm pr br : Nat} {L M : List Rg} {bs cs : List UInt8} (h : BoAt w0 w bp bq pm bm pr br L M bs cs) : ∃ (a : Option Addr) (cap : Nat), w.cell? ⟨bq, 0, none⟩ = some (.slice a M.length cap) ∧ ∀ i n, M[i]? = some n → ∃ g, a = some ⟨g, 0, none⟩ ∧ w.cell? ⟨g, i * 4, none⟩ = some (.int .i64 n.f) ∧ w.cell? ⟨g, i * 4 + 1, none⟩ = some (.int .i64 n.n) ∧ w.cell? ⟨g, i * 4 + 2, none⟩ = some (.int .i64 n.m) ∧ w.cell? ⟨g, i * 4 + 3, none⟩ = some (.bool n.d) := by
  obtain ⟨p, q, rfl, rfl, _, a2, _⟩ := id h.ex
  obtain ⟨a, cap, hv, _, _, hn⟩ := a2.form
  have c := a2.cell
  rw [hv] at c
  refine ⟨a, cap, c, fun i n hi => ?_⟩
  obtain ⟨g, e, c0, c1, c2, c3, _⟩ := hn i n hi
  exact ⟨g, e, c0, c1, c2, c3⟩

set_option maxRecDepth 100000 in
set_option maxHeartbeats 4000000 in
theorem lplays_any (a0 : Option Addr) (len cap : Nat) (w : World) (hl : len ≤ 9223372036854775807) (hA : ∃ A, Acs w a0 len A) : Calls Try.prog 3 #[.slice a0 len cap] w fun e w' => e = .returned (.bool true) ∧ Below w.heap.size w w' := by
  obtain ⟨A, hA⟩ := hA
  have HA : Hid (Acs w a0 len A) := hA
  clear hA
  go_enter Try.func3, Try.ntmps3
  go_wp2_with fail
  refine (awake_any _).mono ?_
  rintro e w1 ⟨rfl, f1⟩
  have HF : Hid (Fr none' w w1) := f1
  clear f1
  go_wp2_with fail
  refine (pnew w1).mono ?_
  rintro e w2 ⟨bp, rfl, P⟩
  go_wp2_with fail
  refine (new_nat 32 w2 (by omega) (by omega)).mono ?_
  rintro e w3 ⟨rfl, f3, m3⟩
  go_wp2_with fail
  refine (rnew_nat 32 _ (by omega) (by omega)).mono ?_
  rintro e w5 ⟨rfl, f5, m5⟩
  simp only [World.size_alloc] at m5
  have HB : Hid (∃ L bs, BoAt w1 w5 bp w3.heap.size (w2.heap.size + 1) w2.heap.size (w3.heap.size + 1 + 1) (w3.heap.size + 1) L L bs bs) := ⟨_, _, bo_new P f3 m3 f5 m5⟩
  clear P f3 m3 f5 m5
  simp only [World.size_alloc]
  generalize w3.heap.size + 1 + 1 = pr at *
  generalize w3.heap.size + 1 = br at *
  generalize w3.heap.size = bq at *
  generalize w2.heap.size + 1 = pm at *
  generalize w2.heap.size = bm at *
  go_upto_block 0 with fail
  go_cut [10] from 38 to 88 (fun i wc => Hid (∃ L bs, BoAt w1 wc bp bq pm bm pr br L L bs bs))
  case first =>
      go_wp2_with fail
      go_loopw [10] (fun i wr => ∃ k : Nat, k ≤ len ∧ k ≤ 120 ∧ i = .int .i64 (k : Int) ∧ Hid (∃ L bs, BoAt w1 wr bp bq pm bm pr br L L bs bs)) (fun i _ => 120 - (intOf i).toNat)
      case atStart => exact ⟨0, by omega, by omega, rfl, HB⟩
      case round =>
        obtain ⟨k, hk1, hk2, rfl, HI⟩ := hrel
        clear HB
        obtain ⟨L, bs, B⟩ := HI.out
        by_cases hlt : k < len
        · by_cases hlt2 : k < 120
          · obtain ⟨g, o, rfl, ak, ok⟩ := (HA.out.keep (HF.out.trans B.fr)) k hlt
            have i1 : 0 ≤ (k : Int) ∧ (k : Int) < (len : Int) := by omega
            have uk1 : decide ((k : Int) < (len : Int)) = true := decide_eq_true (by omega)
            have uk2 : decide ((k : Int) < 120) = true := decide_eq_true (by omega)
            have c0 : wr.cell? ⟨g, o + k * 10, none⟩ = some (.int .i64 (A k).op) := ak 0 (by omega)
            have c1 : wr.cell? ⟨g, o + k * 10 + 1, none⟩ = some (.int .i64 (A k).f) := ak 1 (by omega)
            have c2 : wr.cell? ⟨g, o + k * 10 + 2, none⟩ = some (.int .i64 (A k).x.f) := ak 2 (by omega)
            have c3 : wr.cell? ⟨g, o + k * 10 + 3, none⟩ = some (.int .i64 (A k).x.n) := ak 3 (by omega)
            have c4 : wr.cell? ⟨g, o + k * 10 + 4, none⟩ = some (.int .i64 (A k).x.m) := ak 4 (by omega)
            have c5 : wr.cell? ⟨g, o + k * 10 + 5, none⟩ = some (.bool (A k).x.d) := ak 5 (by omega)
            have c6 : wr.cell? ⟨g, o + k * 10 + 6, none⟩ = some (.int .i64 (A k).k) := ak 6 (by omega)
            have c7 : wr.cell? ⟨g, o + k * 10 + 7, none⟩ = some (.int .i64 (A k).n) := ak 7 (by omega)
            have c8 : wr.cell? ⟨g, o + k * 10 + 8, none⟩ = some (.int .i64 (A k).c) := ak 8 (by omega)
            have c9 : wr.cell? ⟨g, o + k * 10 + 9, none⟩ = some (.int .i64 (A k).u) := ak 9 (by omega)
            have D := does_any w1 wr bp bq pm bm pr br L bs B (A k) ok
            unfold acV acC at D
            clear ak ok B HI
            go_wp2_with fail
            refine D.mono ?_
            rintro e wa ⟨rfl, L', bs', B'⟩
            clear D c0 c1 c2 c3 c4 c5 c6 c7 c8 c9
            go_wp2_with fail
            refine B'.regions.mono ?_
            rintro e wb ⟨vs, rfl, hS, fb⟩
            replace B' := B'.keep0 fb
            obtain ⟨av, cv, rfl, hs⟩ := hS.form
            obtain ⟨aq, cq, cb, hq⟩ := B'.rows
            have hlen := len_le B'.good
            have HS : Hid (∃ L bs, BoAt w1 wb bp bq pm bm pr br L L bs bs) := ⟨_, _, B'⟩
            have Hs : Hid (∀ i n, L'[i]? = some n → ∃ g, av = some ⟨g, 0, none⟩ ∧ wa.heap.size ≤ g ∧ wb.cell? ⟨g, i * 4, none⟩ = some (.int .i64 n.f) ∧ wb.cell? ⟨g, i * 4 + 1, none⟩ = some (.int .i64 n.n) ∧ wb.cell? ⟨g, i * 4 + 2, none⟩ = some (.int .i64 n.m) ∧ wb.cell? ⟨g, i * 4 + 3, none⟩ = some (.bool n.d)) := hs
            have Hq : Hid (wb.cell? ⟨bq, 0, none⟩ = some (.slice aq L'.length cq) ∧ ∀ i n, L'[i]? = some n → ∃ g, aq = some ⟨g, 0, none⟩ ∧ wb.cell? ⟨g, i * 4, none⟩ = some (.int .i64 n.f) ∧ wb.cell? ⟨g, i * 4 + 1, none⟩ = some (.int .i64 n.n) ∧ wb.cell? ⟨g, i * 4 + 2, none⟩ = some (.int .i64 n.m) ∧ wb.cell? ⟨g, i * 4 + 3, none⟩ = some (.bool n.d)) := ⟨cb, hq⟩
            obtain ⟨N, hN⟩ : ∃ N, N = L'.length := ⟨_, rfl⟩
            rw [← hN] at cb hlen Hq
            have HN : Hid (N = L'.length) := hN
            rw [← hN]
            clear hN B' hS fb hs hq
            have heq := neq_reg
            go_wp2_with fail
            clear cb
            go_loopw [13] (fun i wx => ∃ j : Nat, j ≤ N ∧ i = .int .i64 (j : Int) ∧ Hid (Fr none' wb wx)) (fun i _ => N - (intOf i).toNat)
            case atStart => exact ⟨0, by omega, rfl, Fr.refl _ _⟩
            case round =>
              obtain ⟨j, hj, rfl, HI⟩ := hrel
              by_cases hjN : j < N
              · have hjL : j < L'.length := by rw [← HN.out]; exact hjN
                obtain ⟨gs, rfl, _, s0, s1, s2, s3⟩ := Hs.out j L'[j] (List.getElem?_eq_getElem hjL)
                obtain ⟨gq, rfl, q0, q1, q2, q3⟩ := Hq.out.2 j L'[j] (List.getElem?_eq_getElem hjL)
                have cb := cell_keep HI.out Hq.out.1 (fun h => h)
                replace s0 := cell_keep HI.out s0 (fun h => h)
                replace s1 := cell_keep HI.out s1 (fun h => h)
                replace s2 := cell_keep HI.out s2 (fun h => h)
                replace s3 := cell_keep HI.out s3 (fun h => h)
                replace q0 := cell_keep HI.out q0 (fun h => h)
                replace q1 := cell_keep HI.out q1 (fun h => h)
                replace q2 := cell_keep HI.out q2 (fun h => h)
                replace q3 := cell_keep HI.out q3 (fun h => h)
                generalize L'[j] = y at *
                have es : (!eqG y y) = false := by rw [eqG_self]; rfl
                have hy := heq y y
                rw [es] at hy
                have i2 : 0 ≤ (j : Int) ∧ (j : Int) < (N : Int) := by omega
                have HI2 : Hid (∀ k, Fr none' wb (wr.drewN k)) := fun k => HI.out.trans (fr_drewN wr k)
                clear heq hjL HI
                go_wp2_with fail
                go_quiet (fail)
                go_wp2_with fail
                go_roundw
                case rel => exact ⟨j + 1, by omega, by go_num, HI2.out _⟩
                case measure => simp [intOf]; omega
              · have hjN2 : ¬ (j : Int) < (N : Int) := by omega
                have HS2 : Hid (∃ L bs, BoAt w1 wr bp bq pm bm pr br L L bs bs) := by
                  obtain ⟨L, bs, B⟩ := HS.out
                  exact ⟨L, bs, B.keep0 HI.out⟩
                clear HS HI
                go_wp2_with fail
                go_roundw
                case rel => exact ⟨k + 1, by omega, by omega, by go_num, HS2⟩
                case measure => simp [intOf]; omega
          · have uk1 : decide ((k : Int) < (len : Int)) = true := decide_eq_true (by omega)
            have uk2 : decide ((k : Int) < 120) = false := decide_eq_false (by omega)
            clear B
            go_wp2_with fail
            go_meet
            case rel => exact HI
        · have uk1 : decide ((k : Int) < (len : Int)) = false := decide_eq_false (by omega)
          clear B
          go_wp2_with fail
          go_meet
          case rel => exact HI
  case rest =>
    obtain ⟨L, bs, B⟩ := hcut.out
    clear hcut HB HA
    have HB : Hid (BoAt w1 wc bp bq pm bm pr br L L bs bs) := B
    clear B
    go_wp2_with fail
    go_loopw [14] (fun i wr => ∃ k : Nat, k ≤ 32 ∧ i = .int .i64 (k : Int) ∧ Hid (BoAt w1 wr bp bq pm bm pr br L L bs bs)) (fun i _ => 32 - (intOf i).toNat)
    case atStart => exact ⟨0, by omega, rfl, HB⟩
    case round =>
      obtain ⟨k, hk, rfl, HI⟩ := hrel
      clear HB
      by_cases hk2 : k < 32
      · have T := frame_ok wr pm bm 32 bs k HI.out.ram hk2
        go_wp2_with fail
        refine T.mono ?_
        rintro e wa ⟨rfl, fa, ra⟩
        have Ba := HI.out.keep0 fa
        have T2 := rframe_ok wa pr br 32 bs k Ba.ref hk2
        have hd : (frameOf bs k).length = 64 := length_frameOf bs k 32 Ba.ram.len hk2
        clear T HI
        go_wp2_with fail
        refine T2.mono ?_
        rintro e wb ⟨g2, cap2, rfl, hg2, fb, rb⟩
        have Bb := Ba.keep0 fb
        have b1 : Begins wb wr.heap.size (frameOf bs k) 64 := by
          have := begins_row (ra.keep fb (fun h => h))
          rwa [hd] at this
        have T3 := same_frame wb wr.heap.size g2 64 cap2 (frameOf bs k) hd b1 rb
        clear T2 Ba ra fa hd b1 rb hg2 fb
        go_wp2_with fail
        refine T3.mono ?_
        rintro e wd ⟨rfl, fd⟩
        have HN : Hid (BoAt w1 wd bp bq pm bm pr br L L bs bs) := Bb.keep0 fd
        clear T3 Bb fd
        go_wp2_with fail
        go_roundw
        case rel => exact ⟨k + 1, by omega, by go_num, HN⟩
        case measure => simp [intOf]; omega
      · have HE : Hid (Below w.heap.size w wr) := (HF.out.trans HI.out.fr).below (Nat.le_refl _) (fun _ h => h.elim)
        clear HI
        go_wp2_with fail
        go_ret
        exact ⟨rfl, HE.out⟩

end Go.Proofs.Ytcmhndkbcfpbbaa
