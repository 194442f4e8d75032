/-
  The law SchedUrgent walked. No statement is proved here.
-/
import Derived.Test.YtipfgenbfnkpfaaSdAwake
import Derived.Test.YtipfgenbfnkpfaaSdBoth
import Derived.Test.YtipfgenbfnkpfaaSdLawP
import Derived.Deep.CutBlock
import Derived.Deep.CutRange
namespace Go.Proofs.Ytipfgenbfnkpfaa
open Go.RowKit

theorem bo_made {w1 w2 w3 : World} {L : List Tn} (hb : newB L = true) {p : Pb} {q : Db} (i1 : IsS w2 p (newSd L)) (f2 : Fr none' w1 w2) (s2 : ∀ k, p.s (newSd L) k → w1.heap.size ≤ k) (i3 : IsD w3 q (newSd L) []) (f3 : Fr none' w2 w3) (s3 : ∀ k, q.s k → w2.heap.size ≤ k) : Bo w1 w3 p.b q.b (newSd L) [] (fun _ => False) := by
  have := f2.size
  exact ⟨p, q, rfl, rfl, i1.keep0 f3, i3, fun k hk => ⟨s2 k hk, fun h => h, fun hq => by have := i1.lt k hk; have := s3 k hq; omega⟩, fun k hk => ⟨by have := s3 k hk; omega, fun h => h⟩, fun _ h => h.elim, f2.trans f3, ok_new hb, rl_new L⟩

set_option maxRecDepth 100000 in
set_option maxHeartbeats 8000000 in
theorem lurgent_any (a0 : Option Addr) (n0 cap0 : Nat) (a1 : Option Addr) (n1 cap1 : Nat) (w : World) (_hl0 : n0 ≤ 9223372036854775807) (hT : ∃ L, L.length = n0 ∧ TnI w (.slice a0 n0 cap0) L ∧ ∀ x ∈ L, OkN x) (hl1 : n1 ≤ 9223372036854775807) (hA : ∃ A, Acs w a1 n1 A) : Calls Try.prog 4 #[.slice a0 n0 cap0, .slice a1 n1 cap1] w fun e w' => e = .returned (.bool true) ∧ Below w.heap.size w w' := by
  obtain ⟨L, _, hv, _⟩ := hT
  obtain ⟨A, hA⟩ := hA
  have HA : Hid (Acs w a1 n1 A) := hA
  have HV : Hid (TnI w (.slice a0 n0 cap0) L) := hv
  clear hA hv
  have HBE : Hid (∀ w', Fr none' w w' → Below w.heap.size w w') := fun w' f => f.below (Nat.le_refl _) (fun _ h => h.elim)
  go_enter Try.func4, Try.ntmps4
  go_wp2_with fail
  refine (awake_any _).mono ?_
  rintro e w1 ⟨rfl, f1⟩
  have HF : Hid (Fr none' w w1) := f1
  clear f1
  cases hb : newB L with
  | false =>
    go_wp2_with fail
    refine (xnew_no w1 _ L (HV.out.keep HF.out) hb).mono ?_
    rintro e w2 ⟨rfl, f2⟩
    go_wp2_with fail
    refine (rnew_any w2 _ L ((HV.out.keep HF.out).keep f2)).mono ?_
    rintro e w3 (⟨_, rfl, f3⟩ | ⟨h, _⟩)
    · have HE : Hid (Below w.heap.size w w3) := HBE.out _ ((HF.out.trans f2).trans f3)
      clear f2 f3 hb
      go_wp2_with fail
      go_ret
      exact ⟨rfl, HE.out⟩
    · rw [h] at hb; cases hb
  | true =>
    go_wp2_with fail
    refine (new_any w1 _ L (HV.out.keep HF.out)).mono ?_
    rintro e w2 (⟨h, _⟩ | ⟨_, p, rfl, i1, f2, s2⟩)
    · rw [h] at hb; cases hb
    go_wp2_with fail
    refine (rnew_any w2 _ L ((HV.out.keep HF.out).keep f2)).mono ?_
    rintro e w3 (⟨h, _⟩ | ⟨_, q, rfl, i3, f3, s3⟩)
    · rw [h] at hb; cases hb
    have HB : Hid (∃ S Q, Bo w1 w3 p.b q.b S Q (fun _ => False)) := ⟨_, _, bo_made hb i1 f2 s2 i3 f3 s3⟩
    clear i1 f2 s2 i3 f3 s3 hb HV
    generalize p.b = b at *
    generalize q.b = r at *
    go_upto_block 0 with fail
    go_cut [10] from 40 to 56 (fun i wc => Hid (∃ S Q, Bo w1 wc b r S Q (fun _ => False)))
    case first =>
      go_wp2_with fail
      go_loopw [10] (fun i wr => ∃ k : Nat, k ≤ n1 ∧ k ≤ 100 ∧ i = .int .i64 (k : Int) ∧ Hid (∃ S Q, Bo w1 wr b r S Q (fun _ => False))) (fun i _ => 100 - (intOf i).toNat)
      case atStart => exact ⟨0, by omega, by omega, rfl, HB⟩
      case round =>
        obtain ⟨k, hk1, hk2, rfl, HI⟩ := hrel
        clear HB
        by_cases hlt : k < n1
        · by_cases hlt2 : k < 100
          · obtain ⟨S, Q, B⟩ := HI.out
            obtain ⟨g, o, rfl, ak, okx⟩ := (HA.out.keep (HF.out.trans B.old)) k hlt
            have i1 : 0 ≤ (k : Int) ∧ (k : Int) < (n1 : Int) := by omega
            have uk1 : decide ((k : Int) < (n1 : Int)) = true := decide_eq_true (by omega)
            have uk2 : decide ((k : Int) < 100) = true := decide_eq_true (by omega)
            have c0 : wr.cell? ⟨g, o + k * 4, none⟩ = some (.int .i64 (A k).op) := ak 0 (by omega)
            have c1 : wr.cell? ⟨g, o + k * 4 + 1, none⟩ = some (.int .i64 (A k).i) := ak 1 (by omega)
            have c2 : wr.cell? ⟨g, o + k * 4 + 2, none⟩ = some (.int .i64 (A k).n) := ak 2 (by omega)
            have c3 : wr.cell? ⟨g, o + k * 4 + 3, none⟩ = some (.int .i64 (A k).m) := ak 3 (by omega)
            have D := does_any B (A k) okx
            unfold acV acC at D
            clear ak B HI
            go_wp2_with fail
            refine D.mono ?_
            clear D
            rintro e wa ⟨rfl, HQ⟩
            clear c0 c1 c2 c3 okx
            go_wp2_with fail
            go_roundw
            case rel => exact ⟨k + 1, by omega, by omega, by go_num, HQ⟩
            case measure => simp [intOf]; omega
          · have uk1 : decide ((k : Int) < (n1 : Int)) = true := decide_eq_true (by omega)
            have uk2 : decide ((k : Int) < 100) = false := decide_eq_false (by omega)
            go_wp2_with fail
            go_meet
            case rel => exact HI
        · have uk1 : decide ((k : Int) < (n1 : Int)) = false := decide_eq_false (by omega)
          go_wp2_with fail
          go_meet
          case rel => exact HI
    case rest =>
      clear HB HA
      obtain ⟨S, Q, B⟩ := hcut.out
      clear hcut
      have P := B.sx
      have sp := settled P.ok
      have ok1 := ok_settle P.ok
      clear B
      have X := xsettle P
      clear P
      go_wp2_with fail
      refine X.mono ?_
      clear X
      rintro e wd ⟨v, rfl, P, _⟩
      have X := xpe P
      go_wp2_with fail
      refine X.mono ?_
      clear X
      rintro e we ⟨rfl, nd, rfl⟩
      replace P := P.keep0 (fr_drewN wd nd)
      generalize wd.drewN nd = we at *
      have X := xcur P
      go_wp2_with fail
      refine X.mono ?_
      clear X
      rintro e wf ⟨rfl, rfl⟩
      have hpe0 : 0 ≤ pe (setS S) := ok1.t.pt.d0
      have hpe1 : pe (setS S) ≤ 3 := ok1.t.pt.d1
      by_cases hc : (setS S).c = -1
      · have u0 : decide (0 ≤ (setS S).c) = false := decide_eq_false (by omega)
        have HZ : Hid (∀ p : Int, -1 < p → p < 64 → reaL (setS S) (pe (setS S)) p = []) := fun p h1 h2 => by
          unfold reaL
          rw [if_pos ⟨hpe0, by omega, by omega, h2⟩]
          exact sp.1 hc p (by omega) h2
        have HP : Hid (Sx w1 wf b (setS S) (fun _ => False)) := P
        clear sp ok1 P hc hpe0 hpe1
        generalize (setS S).c = cc at *
        go_wp2_with fail
        go_loopw [16] (fun i wr => ∃ pv : Int, (-1 : Int) < pv ∧ pv ≤ 64 ∧ i = .int .i64 pv ∧ Hid (Sx w1 wr b (setS S) (fun _ => False))) (fun i _ => (64 - intOf i).toNat)
        case atStart => exact ⟨0, by omega, by omega, by first | rfl | go_num, HP⟩
        case round =>
          clear HP
          obtain ⟨pv, hp1, hp2, rfl, HI⟩ := hrel
          by_cases hlt : pv < 64
          · have u1 : decide (pv < 64) = true := decide_eq_true hlt
            have X := xrea HI.out (pe (setS S)) pv
            rw [HZ.out pv hp1 hlt] at X
            have HJ : Hid (∀ w', Fr none' wr w' → Sx w1 w' b (setS S) (fun _ => False)) := fun w' f => HI.out.keep0 f
            clear HI
            go_wp2_with fail
            refine X.mono ?_
            clear X
            rintro e wa ⟨v, rfl, fa, av, cv, rfl, _⟩
            have HP := HJ.out _ fa
            replace HP : Hid _ := HP
            clear HJ fa
            go_wp2_with fail
            go_roundw
            case rel => exact ⟨pv + 1, by omega, by omega, by go_num, HP⟩
            case measure => simp [intOf]; omega
          · have u1 : decide (pv < 64) = false := decide_eq_false hlt
            have HE : Hid (Below w.heap.size w wr) := HBE.out _ (HF.out.trans HI.out.old)
            clear HI
            go_wp2_with fail
            go_ret
            exact ⟨rfl, HE.out⟩
      · obtain ⟨t, ht, ta, td, tz⟩ := sp.2 hc
        have hpos := fnd_pos ok1.q.gl ht
        have okt := ok1.q.gl.all t (fnd_mem ht).1
        have p0 := okt.p0
        have p1 := okt.p1
        have u0 : decide (0 ≤ (setS S).c) = true := decide_eq_true hpos.1
        have X := xthr P (setS S).c (i64_of (by omega) (by omega))
        have eC : thrC (setS S) (setS S).c = t := by unfold thrC; rw [ht]; rfl
        have eE : thrE (setS S) (setS S).c = 0 := by unfold thrE; rw [ht]
        rw [eC, eE] at X
        have HZ : Hid (∀ p : Int, t.p < p → p < 64 → reaL (setS S) (pe (setS S)) p = []) := fun p h1 h2 => by
          unfold reaL
          rw [if_pos ⟨hpe0, by omega, by omega, h2⟩]
          exact tz p h1 h2
        have HJ : Hid (∀ w', Fr none' wf w' → Sx w1 w' b (setS S) (fun _ => False)) := fun w' f => P.keep0 f
        clear sp ok1 P hc tz ht okt eC eE hpe0 hpe1 hpos
        generalize (setS S).c = cc at *
        go_wp2_with fail
        refine X.mono ?_
        clear X
        rintro e wg ⟨rfl, fg⟩
        have r1 := row_alloc wg (tkA t) 40
        have fh := fg.alloc (.cells (tkA t) 40)
        have k1 := r1.cell 1
        have k2 := r1.cell 2
        have k4 := r1.cell 4
        dsimp [tkA] at k1 k2 k4
        rw [ta] at k4
        rw [td] at k2
        have HP : Hid _ := HJ.out _ fh
        dsimp only [tkA] at HP
        rw [ta, td] at HP
        have hw : wrap64 (t.p + 1) = t.p + 1 := by unfold wrap64; omega
        clear r1 fh fg HJ
        dsimp only [tkV, tkA]
        rw [ta, td]
        clear ta td
        generalize t.p = tp at *
        generalize t.i = ti at *
        generalize t.s = ts at *
        go_wp2_with fail
        go_loopw [16] (fun i wr => ∃ pv : Int, tp < pv ∧ pv ≤ 64 ∧ i = .int .i64 pv ∧ Hid (Sx w1 wr b (setS S) (fun _ => False))) (fun i _ => (64 - intOf i).toNat)
        case atStart => exact ⟨tp + 1, by omega, by omega, by first | rfl | go_num, HP⟩
        case round =>
          clear HP
          obtain ⟨pv, hp1, hp2, rfl, HI⟩ := hrel
          by_cases hlt : pv < 64
          · have u1 : decide (pv < 64) = true := decide_eq_true hlt
            have X := xrea HI.out (pe (setS S)) pv
            rw [HZ.out pv hp1 hlt] at X
            have HJ : Hid (∀ w', Fr none' wr w' → Sx w1 w' b (setS S) (fun _ => False)) := fun w' f => HI.out.keep0 f
            clear HI
            go_wp2_with fail
            refine X.mono ?_
            clear X
            rintro e wa ⟨v, rfl, fa, av, cv, rfl, _⟩
            have HP := HJ.out _ fa
            replace HP : Hid _ := HP
            clear HJ fa
            go_wp2_with fail
            go_roundw
            case rel => exact ⟨pv + 1, by omega, by omega, by go_num, HP⟩
            case measure => simp [intOf]; omega
          · have u1 : decide (pv < 64) = false := decide_eq_false hlt
            have HE : Hid (Below w.heap.size w wr) := HBE.out _ (HF.out.trans HI.out.old)
            clear HI
            go_wp2_with fail
            go_ret
            exact ⟨rfl, HE.out⟩

end Go.Proofs.Ytipfgenbfnkpfaa
