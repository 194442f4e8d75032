/-
  The law SchedAwake walked. No statement is proved here.
-/
import Derived.Test.YtipfgenbfnkpfaaSdAwake
import Derived.Test.YtipfgenbfnkpfaaSdBoth
import Derived.Test.YtipfgenbfnkpfaaSdAwaQ
import Derived.Deep.CutBlock
import Derived.Deep.CutRange
namespace Go.Proofs.Ytipfgenbfnkpfaa
open Go.RowKit

theorem bo_madeA {w1 w2 w3 : World} {L : List Tn} (hb : newB L = true) {p : Pb} {q : Db} (i1 : IsS w2 p (newSd L)) (f2 : Fr none' w1 w2) (s2 : ∀ k, p.s (newSd L) k → w1.heap.size ≤ k) (i3 : IsD w3 q (newSd L) []) (f3 : Fr none' w2 w3) (s3 : ∀ k, q.s k → w2.heap.size ≤ k) : Bo w1 w3 p.b q.b (newSd L) [] (fun _ => False) := by
  have := f2.size
  exact ⟨p, q, rfl, rfl, i1.keep0 f3, i3, fun k hk => ⟨s2 k hk, fun h => h, fun hq => by have := i1.lt k hk; have := s3 k hq; omega⟩, fun k hk => ⟨by have := s3 k hk; omega, fun h => h⟩, fun _ h => h.elim, f2.trans f3, ok_new hb, rl_new L⟩

set_option maxRecDepth 100000 in
set_option maxHeartbeats 8000000 in
theorem lawake_any (a0 : Option Addr) (n0 cap0 : Nat) (a1 : Option Addr) (n1 cap1 : Nat) (w : World) (_hl0 : n0 ≤ 9223372036854775807) (hT : ∃ L, L.length = n0 ∧ TnI w (.slice a0 n0 cap0) L ∧ ∀ x ∈ L, OkN x) (hl1 : n1 ≤ 9223372036854775807) (hA : ∃ A, Acs w a1 n1 A) : Calls Try.prog 5 #[.slice a0 n0 cap0, .slice a1 n1 cap1] w fun e w' => e = .returned (.bool true) ∧ Below w.heap.size w w' := by
  obtain ⟨L, _, hv, _⟩ := hT
  obtain ⟨A, hA⟩ := hA
  have HA : Hid (Acs w a1 n1 A) := hA
  have HV : Hid (TnI w (.slice a0 n0 cap0) L) := hv
  clear hA hv
  have HBE : Hid (∀ w', Fr none' w w' → Below w.heap.size w w') := fun w' f => f.below (Nat.le_refl _) (fun _ h => h.elim)
  go_enter Try.func5, Try.ntmps5
  go_wp2_with fail
  refine (awake_any _).mono ?_
  rintro e w1 ⟨rfl, f1⟩
  have HF : Hid (Fr none' w w1) := f1
  clear f1
  cases hb : newB L with
  | false =>
    go_wp2_with fail
    refine (xnew_no w1 _ L (HV.out.keep HF.out) hb).mono ?_
    rintro e w2 ⟨rfl, f2⟩
    go_wp2_with fail
    refine (rnew_any w2 _ L ((HV.out.keep HF.out).keep f2)).mono ?_
    rintro e w3 (⟨_, rfl, f3⟩ | ⟨h, _⟩)
    · have HE : Hid (Below w.heap.size w w3) := HBE.out _ ((HF.out.trans f2).trans f3)
      clear f2 f3 hb
      go_wp2_with fail
      go_ret
      exact ⟨rfl, HE.out⟩
    · rw [h] at hb; cases hb
  | true =>
    go_wp2_with fail
    refine (new_any w1 _ L (HV.out.keep HF.out)).mono ?_
    rintro e w2 (⟨h, _⟩ | ⟨_, p, rfl, i1, f2, s2⟩)
    · rw [h] at hb; cases hb
    go_wp2_with fail
    refine (rnew_any w2 _ L ((HV.out.keep HF.out).keep f2)).mono ?_
    rintro e w3 (⟨h, _⟩ | ⟨_, q, rfl, i3, f3, s3⟩)
    · rw [h] at hb; cases hb
    have HB : Hid (∃ S Q, Bo w1 w3 p.b q.b S Q (fun _ => False)) := ⟨_, _, bo_madeA hb i1 f2 s2 i3 f3 s3⟩
    clear i1 f2 s2 i3 f3 s3 hb HV
    generalize p.b = b at *
    generalize q.b = r at *
    go_upto_block 0 with fail
    go_cut [10] from 44 to 60 (fun i wc => Hid (∃ S Q, Bo w1 wc b r S Q (fun _ => False)))
    case first =>
      go_wp2_with fail
      go_loopw [10] (fun i wr => ∃ k : Nat, k ≤ n1 ∧ k ≤ 100 ∧ i = .int .i64 (k : Int) ∧ Hid (∃ S Q, Bo w1 wr b r S Q (fun _ => False))) (fun i _ => 100 - (intOf i).toNat)
      case atStart => exact ⟨0, by omega, by omega, rfl, HB⟩
      case round =>
        obtain ⟨k, hk1, hk2, rfl, HI⟩ := hrel
        clear HB
        by_cases hlt : k < n1
        · by_cases hlt2 : k < 100
          · obtain ⟨S, Q, B⟩ := HI.out
            obtain ⟨g, o, rfl, ak, okx⟩ := (HA.out.keep (HF.out.trans B.old)) k hlt
            have i1 : 0 ≤ (k : Int) ∧ (k : Int) < (n1 : Int) := by omega
            have uk1 : decide ((k : Int) < (n1 : Int)) = true := decide_eq_true (by omega)
            have uk2 : decide ((k : Int) < 100) = true := decide_eq_true (by omega)
            have c0 : wr.cell? ⟨g, o + k * 4, none⟩ = some (.int .i64 (A k).op) := ak 0 (by omega)
            have c1 : wr.cell? ⟨g, o + k * 4 + 1, none⟩ = some (.int .i64 (A k).i) := ak 1 (by omega)
            have c2 : wr.cell? ⟨g, o + k * 4 + 2, none⟩ = some (.int .i64 (A k).n) := ak 2 (by omega)
            have c3 : wr.cell? ⟨g, o + k * 4 + 3, none⟩ = some (.int .i64 (A k).m) := ak 3 (by omega)
            have D := does_any B (A k) okx
            unfold acV acC at D
            clear ak B HI
            go_wp2_with fail
            refine D.mono ?_
            clear D
            rintro e wa ⟨rfl, HQ⟩
            clear c0 c1 c2 c3 okx
            go_wp2_with fail
            go_roundw
            case rel => exact ⟨k + 1, by omega, by omega, by go_num, HQ⟩
            case measure => simp [intOf]; omega
          · have uk1 : decide ((k : Int) < (n1 : Int)) = true := decide_eq_true (by omega)
            have uk2 : decide ((k : Int) < 100) = false := decide_eq_false (by omega)
            go_wp2_with fail
            go_meet
            case rel => exact HI
        · have uk1 : decide ((k : Int) < (n1 : Int)) = false := decide_eq_false (by omega)
          go_wp2_with fail
          go_meet
          case rel => exact HI
    case rest =>
      clear HB HA
      obtain ⟨S, Q, B⟩ := hcut.out
      clear hcut
      have P := B.sx
      have ok1 := P.ok
      clear B
      have X := xcur P
      go_wp2_with fail
      refine X.mono ?_
      clear X
      rintro e wd ⟨rfl, rfl⟩
      have HP : Hid (Sx w1 wd b S (fun _ => False)) := P
      have HO : Hid (Ok S) := ok1
      obtain ⟨cc, hcc⟩ : ∃ cc, cc = S.c := ⟨_, rfl⟩
      rw [← hcc]
      have HCC : Hid (cc = S.c) := hcc
      clear P ok1 hcc
      go_wp2_with fail
      go_loopw [12] (fun i wr => ∃ id : Nat, id ≤ 8 ∧ i = .int .i64 (id : Int) ∧ Hid (Sx w1 wr b S (fun _ => False))) (fun i _ => 8 - (intOf i).toNat)
      case atStart => exact ⟨0, by omega, rfl, HP⟩
      case round =>
        clear HP
        obtain ⟨id, hid, rfl, HI⟩ := hrel
        by_cases hid8 : id < 8
        · have u0 : decide ((id : Int) < 8) = true := decide_eq_true (by omega)
          have iid : (id : Int) < 8 := by omega
          have X := xthr HI.out (id : Int) (i64_of (by omega) (by omega))
          have HJ : Hid (∀ w', Fr none' wr w' → Sx w1 w' b S (fun _ => False)) := fun w' f => HI.out.keep0 f
          have HEND : Hid _ := cntA_end HO.out.q (x := (id : Int)) (by omega)
          have HTK : Hid (∀ d p : Nat, (id : Int) ∈ reaL S (d : Int) (p : Int) → (d : Int) = (thrC S (id : Int)).d ∧ (p : Int) = (thrC S (id : Int)).p) := fun d p hm => by
            unfold reaL at hm
            split at hm
            · rename_i hb
              obtain ⟨_, t, ft, _, hk⟩ := (HO.out.q.qi.mem _ _).1 hm
              have okt := HO.out.q.gl.all t (fnd_mem ft).1
              have e2 : thrC S (id : Int) = t := by unfold thrC; rw [ft]; rfl
              rw [e2]
              have := ky_inj okt.d0 ⟨okt.p0, by have := okt.p1; omega⟩ hb.1 ⟨hb.2.2.1, hb.2.2.2⟩ hk
              exact ⟨this.1.symm, this.2.symm⟩
            · cases hm
          have HCN : Hid (∀ d p : Nat, d < 4 → p < 64 → cntA S (id : Int) (d * 64 + p) + cntL (id : Int) (reaL S (d : Int) (p : Int)) = cntA S (id : Int) (d * 64 + (p + 1))) := fun d p hd hp => by
            have e1 : reaL S (d : Int) (p : Int) = S.q (d * 64 + p) := by unfold reaL; rw [if_pos (by omega)]; unfold ky; simp
            rw [e1, cntL_nd (HO.out.q.qi.nd _)]
            rfl
          have HLN : Hid (∀ d p : Int, (reaL S d p).length ≤ 1024) := fun d p => reaL_len HO.out d p
          clear HI
          go_wp2_with fail
          refine X.mono ?_
          clear X
          rintro e wt ⟨rfl, ft⟩
          have r1 := row_alloc wt (tkA (thrC S (id : Int))) 40
          have fh := ft.alloc (.cells (tkA (thrC S (id : Int))) 40)
          have HP : Hid (Sx w1 (wt.alloc (.cells (tkA (thrC S (id : Int))) 40)) b S (fun _ => False)) := HJ.out _ fh
          have HRW : Hid (Row (wt.alloc (.cells (tkA (thrC S (id : Int))) 40)) wt.heap.size (tkA (thrC S (id : Int))) 40) := r1
          dsimp only [tkV, tkA] at *
          clear r1 fh ft HJ
          go_wp2_with fail
          generalize thrE S (id : Int) = te at *
          generalize thrC S (id : Int) = tt at *
          generalize wt.alloc (.cells #[.int .i64 tt.i, .int .i64 tt.p, .int .i64 tt.d, .int .i64 tt.s, .bool tt.a] 40) = W at *
          generalize wt.heap.size = gb at *
          go_loopw [15, 16, 17] (fun m o d wr => ∃ (dn : Nat) (mv : Int), dn ≤ 4 ∧ 0 ≤ mv ∧ mv ≤ 300 ∧ d = .int .i64 (dn : Int) ∧ m = .int .i64 mv ∧ o = .int .i64 mv ∧ Hid (mv = cntA S (id : Int) (dn * 64)) ∧ Hid (Fr none' W wr)) (fun _ _ d _ => 4 - (intOf d).toNat)
          case atStart => exact ⟨0, 0, by omega, by omega, by omega, rfl, rfl, rfl, rfl, Fr.refl _ _⟩
          case round =>
            obtain ⟨dn, mv, hdn, hm0, hm1, rfl, rfl, rfl, HM, HW⟩ := hrel
            by_cases hd4 : dn < 4
            · have u1 : decide ((dn : Int) < 4) = true := decide_eq_true (by omega)
              have idn : (dn : Int) < 4 := by omega
              obtain ⟨wx, rfl⟩ : ∃ wx, wx = wr := ⟨wr, rfl⟩
              go_wp2_with fail
              go_loopw [15, 16, 18] (fun m o p wr => ∃ (pn : Nat) (mv : Int), pn ≤ 64 ∧ 0 ≤ mv ∧ mv ≤ 300 ∧ p = .int .i64 (pn : Int) ∧ m = .int .i64 mv ∧ o = .int .i64 mv ∧ Hid (mv = cntA S (id : Int) (dn * 64 + pn)) ∧ Hid (Fr none' W wr)) (fun _ _ p _ => 64 - (intOf p).toNat)
              case atStart => exact ⟨0, mv, by omega, hm0, hm1, rfl, rfl, rfl, HM, HW⟩
              case round =>
                clear HM HW hm0 hm1
                obtain ⟨pn, mp, hpn, hm0, hm1, rfl, rfl, rfl, HM, HW⟩ := hrel
                by_cases hp64 : pn < 64
                · have u2 : decide ((pn : Int) < 64) = true := decide_eq_true (by omega)
                  have ipn : (pn : Int) < 64 := by omega
                  have X := xrea (HP.out.keep0 HW.out) (dn : Int) (pn : Int)
                  have hlen := HLN.out (dn : Int) (pn : Int)
                  have HMEM : Hid (∀ (j : Nat), (reaL S (dn : Int) (pn : Int))[j]? = some (id : Int) → (dn : Int) = tt.d ∧ (pn : Int) = tt.p) := fun j hj => HTK.out dn pn (List.mem_of_getElem? hj)
                  have HCNT := HCN.out dn pn hd4 hp64
                  replace HCNT : Hid _ := HCNT
                  generalize reaL S (dn : Int) (pn : Int) = l at *
                  obtain ⟨wy, rfl⟩ : ∃ wy, wy = wr := ⟨wr, rfl⟩
                  go_wp2_with fail
                  refine X.mono ?_
                  clear X
                  rintro e wa ⟨v, rfl, fa, av, cv, rfl, hx⟩
                  have HW2 : Hid (Fr none' W wa) := HW.out.trans fa
                  have HX : Hid (∀ (j : Nat) (x : Int), l[j]? = some x → ∃ g, av = some ⟨g, 0, none⟩ ∧ wa.cell? ⟨g, j, none⟩ = some (.int .i64 x)) := fun j x hj => by
                    obtain ⟨g, e, _, c⟩ := hx j x hj
                    exact ⟨g, e, c⟩
                  have HBD : Hid (∀ j, 0 ≤ cntL (id : Int) (l.take j) ∧ cntL (id : Int) (l.take j) ≤ 1024) := fun j => by
                    have h1 := cntL_bound (id : Int) (l.take j)
                    have h2 : (l.take j).length ≤ l.length := by rw [List.length_take]; omega
                    omega
                  have HGET : Hid (∀ j, j < l.length → ∃ y, l[j]? = some y) := fun j h => ⟨_, List.getElem?_eq_getElem h⟩
                  have HALL : Hid (∀ j, l.length ≤ j → l.take j = l) := fun j h => List.take_of_length_le h
                  have HBA : Hid (cntA S (id : Int) (dn * 64 + (pn + 1)) ≤ 300) := by
                    have := cntA_bound S (id : Int) (dn * 64 + (pn + 1))
                    show _ ≤ _
                    omega
                  obtain ⟨N, hN⟩ : ∃ N, N = l.length := ⟨_, rfl⟩
                  rw [← hN] at HGET HALL hlen
                  rw [← hN]
                  clear hN hx fa HW
                  go_wp2_with fail
                  go_loopw [15, 16, 20] (fun m o i wr => ∃ (j : Nat) (nv : Int), j ≤ N ∧ 0 ≤ nv ∧ nv ≤ 2000 ∧ i = .int .i64 (j : Int) ∧ m = .int .i64 nv ∧ o = .int .i64 nv ∧ Hid (nv = mp + cntL (id : Int) (l.take j)) ∧ Hid (Fr none' wa wr)) (fun _ _ i _ => N - (intOf i).toNat)
                  case atStart => exact ⟨0, mp, by omega, hm0, by omega, rfl, rfl, rfl, by show mp = mp + 0; omega, Fr.refl _ _⟩
                  case round =>
                    obtain ⟨j, nv, hj, hn0, hn1, rfl, rfl, rfl, HN, HZ⟩ := hrel
                    by_cases hjN : j < N
                    · have u3 : decide ((j : Int) < (N : Int)) = true := decide_eq_true (by omega)
                      have ij : 0 ≤ (j : Int) ∧ (j : Int) < (N : Int) := by omega
                      obtain ⟨y, hy⟩ := HGET.out j hjN
                      obtain ⟨g, rfl, cy⟩ := HX.out j y hy
                      replace cy := cell_keep HZ.out cy (fun h => h)
                      have HS := cntL_step (id : Int) l j y hy
                      have hb := HBD.out (j + 1)
                      have hb0 := HBD.out j
                      by_cases hyi : y = (id : Int)
                      · subst hyi
                        obtain ⟨e1, e2⟩ := HMEM.out j hy
                        have HQ : Hid (nv + 1 = mp + cntL (id : Int) (l.take (j + 1))) := by
                          show _ = _
                          rw [HS, if_pos rfl, HN.out]
                          omega
                        have hn2 : nv + 1 ≤ 2000 := by rw [HQ.out]; omega
                        have r3 := HRW.out.keep (HW2.out.trans HZ.out) (fun h => h)
                        have k1 := r3.cell 1
                        have k2 := r3.cell 2
                        dsimp at k1 k2
                        rw [← e1] at k2
                        rw [← e2] at k1
                        have hw : wrap64 (nv + 1) = nv + 1 := by unfold wrap64; omega
                        clear r3 hy HS hb hb0 e1 e2 HN
                        go_wp2_with fail
                        go_roundw
                        case rel => exact ⟨j + 1, nv + 1, by omega, by omega, hn2, by go_num, rfl, rfl, HQ, HZ⟩
                        case measure => simp [intOf]; omega
                      · have t1 : (y == (id : Int)) = false := by simpa using hyi
                        have HQ : Hid (nv = mp + cntL (id : Int) (l.take (j + 1))) := by
                          show _ = _
                          rw [HS, if_neg hyi, HN.out]
                          omega
                        clear hy HS hb hb0 HN hyi
                        go_wp2_with fail
                        go_roundw
                        case rel => exact ⟨j + 1, nv, by omega, by omega, hn1, by go_num, rfl, rfl, HQ, HZ⟩
                        case measure => simp [intOf]; omega
                    · have u3 : decide ((j : Int) < (N : Int)) = false := decide_eq_false (by omega)
                      have ij : ¬ (j : Int) < (N : Int) := by omega
                      have HQ : Hid (nv = cntA S (id : Int) (dn * 64 + (pn + 1))) := by
                        show _ = _
                        have := HN.out
                        rw [HALL.out j (by omega)] at this
                        rw [this, HM.out]
                        exact HCNT.out
                      have hn3 : nv ≤ 300 := by rw [HQ.out]; exact HBA.out
                      have HW3 : Hid (Fr none' W wr) := HW2.out.trans HZ.out
                      clear HN HZ HM HCNT HX HBD HGET HALL HMEM HBA HW2
                      go_wp2_with fail
                      go_roundw
                      case rel => exact ⟨pn + 1, nv, by omega, by omega, hn3, by go_num, rfl, rfl, HQ, HW3⟩
                      case measure => simp [intOf]; omega
                · have u2 : decide ((pn : Int) < 64) = false := decide_eq_false (by omega)
                  have ipn : ¬ (pn : Int) < 64 := by omega
                  have HQ : Hid (mp = cntA S (id : Int) ((dn + 1) * 64)) := by
                    show _ = _
                    rw [HM.out]
                    congr 1
                    omega
                  clear HM
                  go_wp2_with fail
                  go_roundw
                  case rel => exact ⟨dn + 1, mp, by omega, hm0, hm1, by go_num, rfl, rfl, HQ, HW⟩
                  case measure => simp [intOf]; omega
            · have u1 : decide ((dn : Int) < 4) = false := decide_eq_false (by omega)
              have idn : ¬ (dn : Int) < 4 := by omega
              have HQ : Hid (mv = cntA S (id : Int) 256) := by
                show _ = _
                rw [HM.out]
                congr 1
                omega
              have r3 := HRW.out.keep HW.out (fun h => h)
              have k4 := r3.cell 4
              dsimp at k4
              have HS2 : Hid (Sx w1 wr b S (fun _ => False)) := HP.out.keep0 HW.out
              clear HM r3 HW HP HRW HTK HCN HLN
              have hw : wrap64 (mv + 1) = mv + 1 := by unfold wrap64; omega
              have en := HEND.out
              rw [← HQ.out] at en
              clear HEND HQ
              rw [← HCC.out] at en
              by_cases hc : cc = (id : Int)
              · have t1 : (cc == (id : Int)) = true := by simpa using hc
                rw [if_pos hc] at en
                cases hte : (te == 0) with
                | false =>
                  rw [hte] at en
                  simp at en
                  omega
                | true =>
                  cases ha : tt.a with
                  | false =>
                    rw [hte, ha] at en
                    simp at en
                    omega
                  | true =>
                    rw [hte, ha] at en
                    simp at en
                    rw [ha] at k4
                    obtain rfl : mv = 0 := by omega
                    clear en hc
                    go_wp2_with fail
                    go_roundw
                    case rel => exact ⟨id + 1, by omega, by go_num, HS2⟩
                    case measure => simp [intOf]; omega
              · have t1 : (cc == (id : Int)) = false := by simpa using hc
                rw [if_neg hc] at en
                cases hte : (te == 0) with
                | false =>
                  rw [hte] at en
                  simp at en
                  obtain rfl : mv = 0 := by omega
                  clear en hc
                  go_wp2_with fail
                  go_roundw
                  case rel => exact ⟨id + 1, by omega, by go_num, HS2⟩
                  case measure => simp [intOf]; omega
                | true =>
                  cases ha : tt.a with
                  | false =>
                    rw [hte, ha] at en
                    simp at en
                    rw [ha] at k4
                    obtain rfl : mv = 0 := by omega
                    clear en hc
                    go_wp2_with fail
                    go_roundw
                    case rel => exact ⟨id + 1, by omega, by go_num, HS2⟩
                    case measure => simp [intOf]; omega
                  | true =>
                    rw [hte, ha] at en
                    simp at en
                    rw [ha] at k4
                    obtain rfl : mv = 1 := by omega
                    clear en hc
                    go_wp2_with fail
                    go_roundw
                    case rel => exact ⟨id + 1, by omega, by go_num, HS2⟩
                    case measure => simp [intOf]; omega
        · have u0 : decide ((id : Int) < 8) = false := decide_eq_false (by omega)
          have iid : ¬ (id : Int) < 8 := by omega
          have HE : Hid (Below w.heap.size w wr) := HBE.out _ (HF.out.trans HI.out.old)
          clear HI
          go_wp2_with fail
          go_ret
          exact ⟨rfl, HE.out⟩

end Go.Proofs.Ytipfgenbfnkpfaa
