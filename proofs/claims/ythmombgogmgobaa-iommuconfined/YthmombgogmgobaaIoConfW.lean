/-
  The walk of the law IommuConfined over the translation: it answers true. No statement is proved here.
-/
import Derived.Test.YthmombgogmgobaaIoConfR
import Derived.Test.YthmombgogmgobaaIoAwake
import Derived.Test.YthmombgogmgobaaIoOpen
namespace Go.Proofs.Ythmombgogmgobaa
open Go.RowKit

set_option maxHeartbeats 16000000 in
set_option maxRecDepth 100000 in
theorem ioconf_w (a0 : Option Addr) (len cap : Nat) (a1 : Option Addr) (len1 cap1 : Nat) (s ad : Int) (b : Nat) (w : World) (hl : len ≤ 9223372036854775807) (hP : ∃ P, Pqs w a0 len P) (hl1 : len1 ≤ 9223372036854775807) (hA : ∃ A, Aqs w a1 len1 A) (hb : b < 256) (had : -9223372036854775808 ≤ ad ∧ ad ≤ 9223372036854775807) :
    Calls Try.prog 4 #[.slice a0 len cap, .slice a1 len1 cap1, .int .i64 s, .int .i64 ad, .bool true, .int .u8 (b : Int)] w fun e w' => e = .returned (.bool true) ∧ Below w.heap.size w w' := by
  have ew : wrap64 (ad.tdiv 64) = ad.tdiv 64 := wrap_tdiv had
  have HAD : Hid (-9223372036854775808 ≤ ad ∧ ad ≤ 9223372036854775807) := had
  clear had
  obtain ⟨P, hP⟩ := hP
  obtain ⟨A, hA⟩ := hA
  have HA : Hid (Aqs w a1 len1 A) := hA
  clear hA
  go_enter Try.func4, Try.ntmps4
  go_wp2_with fail
  refine (ioawake_any _).mono ?_
  rintro e w1 ⟨rfl, f1⟩
  replace hP := hP.keep f1
  go_wp2_with fail
  refine (iomade_any _ a0 len cap P hl hP).mono ?_
  rintro e w2 ⟨x, Ux, rfl, f2, hx, hUx⟩
  obtain ⟨bs, hbs⟩ : ∃ bs, bs = mdB P len := ⟨_, rfl⟩
  rw [← hbs] at hx
  have F : Fr none' w w2 := f1.trans f2
  replace hUx : ∀ k, Ux k → w.heap.size ≤ k := fun k hk => Nat.le_trans f1.size (hUx k hk)
  have S0 : Snd bs io0 := snd0 bs
  clear f1 f2 hP hbs
  go_upto_block 0 with fail
  go_cut [15] from 38 to 75 (fun i wr => ∃ (Ux : Nat → Prop) (S : Io), Fr none' w wr ∧ IsBo wr x Ux bs S ∧ (∀ k, Ux k → w.heap.size ≤ k) ∧ Snd bs S)
  case first =>
    go_wp2_with fail
    go_loopw [15] (fun i wr => ∃ (k : Nat) (Ux : Nat → Prop) (S : Io), k ≤ len1 ∧ k ≤ 100 ∧ i = .int .i64 k ∧ Fr none' w wr ∧ IsBo wr x Ux bs S ∧ (∀ k, Ux k → w.heap.size ≤ k) ∧ Snd bs S) (fun i _ => 100 - (intOf i).toNat)
    case atStart => exact ⟨0, Ux, io0, by omega, by omega, rfl, F, hx, hUx, S0⟩
    case round =>
      clear F hx hUx S0
      obtain ⟨k, Ux, S, hk, hk2, rfl, F, hx, hUx, SS⟩ := hrel
      by_cases hlt : k < len1
      · by_cases hlt2 : k < 100
        · obtain ⟨bb, o, rfl, ak⟩ := HA.out k hlt
          replace ak := ak.keep F (fun h => h)
          have i1 : 0 ≤ (k : Int) ∧ (k : Int) < (len1 : Int) := by omega
          have uk1 : decide ((k : Int) < (len1 : Int)) = true := decide_eq_true (by omega)
          have uk2 : decide ((k : Int) < 100) = true := decide_eq_true (by omega)
          have HAK : Hid (AqIs wr bb (o + k * 11) (A k)) := ak
          obtain ⟨c0, c1, c2, c3, c4, _, hbk⟩ := ak
          have HTT : Hid (Fr none' w wr ∧ IsBo wr x Ux bs S ∧ (∀ k, Ux k → w.heap.size ≤ k) ∧ Snd bs S) := ⟨F, hx, hUx, SS⟩
          clear F hx hUx SS c1 c2 c4
          go_upto_region 8 with fail
          go_cut [69] from 48 to 69 (fun c wx => c = .bool (quietA (A k)) ∧ wx = wr)
          case first =>
            by_cases h8 : (A k).d = 8
            · have t8 : ((A k).d != 8) = false := by simp [h8]
              have HEQ : Hid (quietA (A k) = false) := (show _ = _ from by rw [quiet_facts, t8]; rfl)
              clear h8
              go_wp2_with fail; go_meet; exact ⟨by rw [HEQ.out], rfl⟩
            · have t8 : ((A k).d != 8) = true := by simp [h8]
              by_cases h3 : (A k).d = 3
              · have t3 : ((A k).d == 3) = true := by simp [h3]
                cases hw : (A k).wr with
                | false =>
                  have HEQ : Hid (quietA (A k) = true) := (show _ = _ from by rw [quiet_facts, t8, t3, hw]; rfl)
                  rw [hw] at c3
                  clear h8 h3 hw
                  go_wp2_with fail; go_meet; exact ⟨by rw [HEQ.out], rfl⟩
                | true =>
                  have HEQ : Hid (quietA (A k) = false) := (show _ = _ from by rw [quiet_facts, t8, t3, hw]; rfl)
                  rw [hw] at c3
                  clear h8 h3 hw
                  go_wp2_with fail; go_meet; exact ⟨by rw [HEQ.out], rfl⟩
              · have t3 : ((A k).d == 3) = false := by simp [h3]
                have HEQ : Hid (quietA (A k) = true) := (show _ = _ from by rw [quiet_facts, t8, t3]; rfl)
                clear h8 h3
                go_wp2_with fail; go_meet; exact ⟨by rw [HEQ.out], rfl⟩
          case rest =>
          obtain ⟨rfl, rfl⟩ := hcut
          clear c0 c3
          cases hq : quietA (A k) with
          | false =>
            go_wp2_with fail
            go_roundw
            case rel => exact ⟨k + 1, Ux, S, by omega, by omega, by go_num, HTT.out.1, HTT.out.2.1, HTT.out.2.2.1, HTT.out.2.2.2⟩
            case measure => simp [intOf]; omega
          | true =>
            obtain ⟨c0, c1, c2, c3, c4, ⟨c5, c6, c7, c8, c9, c10⟩, _⟩ := HAK.out
            go_wp2_with fail
            refine (does_any _ _ _ _ _ (A k) hbk HTT.out.2.1).mono ?_
            rintro e w4 ⟨rfl, Ux1, hx1, u1⟩
            rw [quiet_bs hq] at hx1
            obtain ⟨F1, hU1⟩ := u1.fr0 HTT.out.1 HTT.out.2.2.1
            have H' : Hid (Fr none' w w4 ∧ IsBo w4 x Ux1 bs (actS bs S (A k)) ∧ (∀ k, Ux1 k → w.heap.size ≤ k) ∧ Snd bs (actS bs S (A k))) := ⟨F1, hx1, hU1, HTT.out.2.2.2.act _⟩
            clear c0 c1 c2 c3 c4 c5 c6 c7 c8 c9 c10 u1 hx1 F1 hU1
            go_wp2_with fail
            go_roundw
            case rel => exact ⟨k + 1, Ux1, _, by omega, by omega, by go_num, H'.out.1, H'.out.2.1, H'.out.2.2.1, H'.out.2.2.2⟩
            case measure => simp [intOf]; omega
        · obtain rfl : k = 100 := by omega
          have uk1 : decide (((100 : Nat) : Int) < (len1 : Int)) = true := decide_eq_true (by omega)
          go_wp2_with fail
          go_meet
          exact ⟨Ux, S, F, hx, hUx, SS⟩
      · obtain rfl : k = len1 := by omega
        go_wp2_with fail
        go_meet
        exact ⟨Ux, S, F, hx, hUx, SS⟩
  case rest =>
  clear F hx hUx S0
  obtain ⟨Ux, S, F, hx, hUx, SS⟩ := hcut
  have hlen := hx.len
  have hok := hx.ok
  have hCF := conf_is SS hok (by omega) s ad true b hb
  have hDM := (dma_may SS hok s ad true).1
  obtain ⟨R, hR⟩ : ∃ R, R = rootO S s := ⟨_, rfl⟩
  obtain ⟨X, hX⟩ : ∃ X, X = single bs 16 R (ad.tdiv 64) := ⟨_, rfl⟩
  obtain ⟨m, hm⟩ : ∃ m, m = mayB bs s ad R (wantI true) := ⟨_, rfl⟩
  rw [← hR, ← hX] at hCF
  rw [← hR] at hDM
  rw [← hm] at hCF hDM
  have HM : Hid (m = mayB bs s ad R (wantI true)) := hm
  have HX : Hid (X = single bs 16 R (ad.tdiv 64)) := hX
  have HCF : Hid (Conf bs (dmaB bs 16 S s ad true b) m true X.fr b (dmaV bs 16 S s ad true b) ad) := hCF
  have HDM : Hid (dmaE bs 16 S s ad true = 0 ↔ m = true) := hDM
  have HR : Hid (R = rootO S s) := hR
  have HLEN : Hid (bs.length = 64 * 16) := hlen
  clear hm hX hCF hDM hR hlen hok SS
  obtain ⟨pm, bm, pr, br, bi, ji, O, Q, h, hU⟩ := hx
  have hUU : ∀ k, boU x pm bm pr br O Q k → w.heap.size ≤ k := by rw [← hU]; exact hUx
  clear hU hUx
  obtain ⟨x0, x1, x2, x3⟩ := h.row
  go_wp2_with fail
  refine (ioroot_any _ _ _ _ _ h.io).mono ?_
  rintro e w5 ⟨rfl, f5⟩
  rw [← HR.out]
  replace F := F.trans f5
  replace h := h.keep0 f5
  clear x0 x1 x2 x3 f5
  obtain ⟨x0, x1, x2, x3⟩ := h.row
  go_wp2_with fail
  refine (single_any _ pm bm 16 bs _ _ h.ram).mono ?_
  rintro e w6 ⟨rfl, f6⟩
  rw [← HX.out]
  have f7 := f6.alloc (.cells #[.int .i64 X.ft.k, .int .i64 X.ft.s, .int .i64 X.ft.l, .bool X.ft.wk, .int .i64 X.ft.p] 43)
  have r7 := row_alloc w6 #[.int .i64 X.ft.k, .int .i64 X.ft.s, .int .i64 X.ft.l, .bool X.ft.wk, .int .i64 X.ft.p] 43
  replace F := F.trans f7
  replace h := h.keep0 f7
  clear x0 x1 x2 x3 f6 f7
  go_upto_region 12 with fail
  obtain ⟨W, hW⟩ : ∃ W, W = w6.alloc (.cells #[.int .i64 X.ft.k, .int .i64 X.ft.s, .int .i64 X.ft.l, .bool X.ft.wk, .int .i64 X.ft.p] 43) := ⟨_, rfl⟩
  obtain ⟨G, hG⟩ : ∃ G, G = w6.heap.size := ⟨_, rfl⟩
  rw [← hW] at F h r7 ⊢
  rw [← hG] at r7 ⊢
  have HB : Hid (BoAt W x pm bm pr br bi ji O Q bs bs S S ∧ Fr none' w W ∧ ∀ k, boU x pm bm pr br O Q k → w.heap.size ≤ k) := ⟨h, F, hUU⟩
  have g0 := r7.cell 0
  replace g0 : W.cell? ⟨G, 0, none⟩ = some (.int .i64 X.ft.k) := g0
  clear hW hG h F hUU r7
  have HME : Hid (m = (decide (0 ≤ s) && (decide (s < 16) && (decide (0 ≤ ad) && (decide (ad < 65536) && (decide (0 ≤ R) && ((X.ft.k == 0) && ((bits .and .i64 X.ri 2 != 0) && decide (X.fr < 16))))))))) := (show _ = _ from by rw [HM.out, HX.out]; rfl)
  go_upto_region 15 with fail
  go_cut [21] from 95 to 127 (fun c wx => c = .bool m ∧ wx = W)
  case first =>
    cases t1 : decide (0 ≤ s) with
    | false =>
      have HQ : Hid (m = false) := (show _ = _ from by rw [HME.out, t1]; rfl)
      go_wp2_with fail; go_meet; exact ⟨by rw [HQ.out], rfl⟩
    | true =>
    cases t2 : decide (s < 16) with
    | false =>
      have HQ : Hid (m = false) := (show _ = _ from by rw [HME.out, t1, t2]; rfl)
      go_wp2_with fail; go_meet; exact ⟨by rw [HQ.out], rfl⟩
    | true =>
    cases t3 : decide (0 ≤ ad) with
    | false =>
      have HQ : Hid (m = false) := (show _ = _ from by rw [HME.out, t1, t2, t3]; rfl)
      go_wp2_with fail; go_meet; exact ⟨by rw [HQ.out], rfl⟩
    | true =>
    cases t4 : decide (ad < 65536) with
    | false =>
      have HQ : Hid (m = false) := (show _ = _ from by rw [HME.out, t1, t2, t3, t4]; rfl)
      go_wp2_with fail; go_meet; exact ⟨by rw [HQ.out], rfl⟩
    | true =>
    cases t5 : decide (0 ≤ R) with
    | false =>
      have HQ : Hid (m = false) := (show _ = _ from by rw [HME.out, t1, t2, t3, t4, t5]; rfl)
      go_wp2_with fail; go_meet; exact ⟨by rw [HQ.out], rfl⟩
    | true =>
    cases t6 : (X.ft.k == 0) with
    | false =>
      have HQ : Hid (m = false) := (show _ = _ from by rw [HME.out, t1, t2, t3, t4, t5, t6]; rfl)
      go_wp2_with fail; go_meet; exact ⟨by rw [HQ.out], rfl⟩
    | true =>
    cases t7 : (bits .and .i64 X.ri 2 != 0) with
    | false =>
      have HQ : Hid (m = false) := (show _ = _ from by rw [HME.out, t1, t2, t3, t4, t5, t6, t7]; rfl)
      go_wp2_with fail; go_meet; exact ⟨by rw [HQ.out], rfl⟩
    | true =>
    cases t8 : decide (X.fr < 16) with
    | false =>
      have HQ : Hid (m = false) := (show _ = _ from by rw [HME.out, t1, t2, t3, t4, t5, t6, t7, t8]; rfl)
      go_wp2_with fail; go_meet; exact ⟨by rw [HQ.out], rfl⟩
    | true =>
    have HQ : Hid (m = true) := (show _ = _ from by rw [HME.out, t1, t2, t3, t4, t5, t6, t7, t8]; rfl)
    go_wp2_with fail; go_meet; exact ⟨by rw [HQ.out], rfl⟩
  case rest =>
  obtain ⟨rfl, hw⟩ := hcut
  replace hw := hw.symm
  subst hw
  clear g0 HME
  -- the array of what was
  obtain ⟨hB, F, hUU⟩ := HB.out
  have RA := row_alloc W #[.slice none 0 0, .slice none 0 0, .slice none 0 0, .slice none 0 0, .slice none 0 0, .slice none 0 0, .slice none 0 0, .slice none 0 0, .slice none 0 0, .slice none 0 0, .slice none 0 0, .slice none 0 0, .slice none 0 0, .slice none 0 0, .slice none 0 0, .slice none 0 0] 47
  have FA := (Fr.refl none' W).alloc (.cells #[.slice none 0 0, .slice none 0 0, .slice none 0 0, .slice none 0 0, .slice none 0 0, .slice none 0 0, .slice none 0 0, .slice none 0 0, .slice none 0 0, .slice none 0 0, .slice none 0 0, .slice none 0 0, .slice none 0 0, .slice none 0 0, .slice none 0 0, .slice none 0 0] 47)
  have nA : ¬ boU x pm bm pr br O Q W.heap.size := fun e => by have := hB.lt _ e; omega
  replace hB := hB.keep0 FA
  replace F := F.trans FA
  have TB := told_zero (bs := bs) RA nA
  clear FA RA nA
  go_upto_block 2 with fail
  obtain ⟨B, hBB⟩ : ∃ B, B = W.heap.size := ⟨_, rfl⟩
  rw [← hBB] at TB ⊢
  obtain ⟨V, hV⟩ : ∃ V, V = W.alloc (.cells #[.slice none 0 0, .slice none 0 0, .slice none 0 0, .slice none 0 0, .slice none 0 0, .slice none 0 0, .slice none 0 0, .slice none 0 0, .slice none 0 0, .slice none 0 0, .slice none 0 0, .slice none 0 0, .slice none 0 0, .slice none 0 0, .slice none 0 0, .slice none 0 0] 47) := ⟨_, rfl⟩
  rw [← hV] at TB F hB ⊢
  have hwB : w.heap.size ≤ B := by
    have := (HB.out.2.1).size
    omega
  clear hV hBB HB
  go_cut [23, 24, 25] from 128 to 147 (fun c p q wx => BoAt wx x pm bm pr br bi ji O Q bs bs S S ∧ Fr none' w wx ∧ Told16 wx B 16 bs (boU x pm bm pr br O Q))
  case first =>
    go_wp2_with fail
    go_loopw [23] (fun i wr => ∃ n : Nat, n ≤ 16 ∧ i = .int .i64 n ∧ BoAt wr x pm bm pr br bi ji O Q bs bs S S ∧ Fr none' w wr ∧ Told16 wr B n bs (boU x pm bm pr br O Q)) (fun i _ => 16 - (intOf i).toNat)
    case atStart => exact ⟨0, by omega, rfl, hB, F, TB⟩
    case round =>
      clear hB F TB
      obtain ⟨n, hn, rfl, h, F, TB⟩ := hrel
      by_cases hlt : n < 16
      · have HH : Hid (Fr none' w wr ∧ Told16 wr B n bs (boU x pm bm pr br O Q)) := ⟨F, TB⟩
        clear F TB
        obtain ⟨x0, x1, x2, x3⟩ := h.row
        go_wp2_with fail
        refine (frame_ok _ _ _ _ _ _ h.ram hlt).mono ?_
        rintro e w7 ⟨rfl, f7, r7⟩
        have H7 : Hid (BoAt w7 x pm bm pr br bi ji O Q bs bs S S ∧ Fr none' w w7 ∧ Told16 w7 B n bs (boU x pm bm pr br O Q) ∧ Row w7 wr.heap.size (byteVals (frameOf bs n)) 5 ∧ ¬ boU x pm bm pr br O Q wr.heap.size ∧ wr.heap.size ≠ B) := ⟨h.keep0 f7, HH.out.1.trans f7, HH.out.2.keep f7 (fun _ h => h.elim), r7, fun e => by have := h.lt _ e; omega, fun e => by
          obtain ⟨cs, hr, _⟩ := HH.out.2.row
          have := hr.lt
          omega⟩
        clear x0 x1 x2 x3 f7 r7 h
        obtain ⟨cs, hr, h1, h2, h3⟩ := H7.out.2.2.1.row
        obtain ⟨v, hv⟩ := h2 n hlt
        have hc : w7.cell? ⟨B, n, none⟩ = some v := by rw [hr.cell]; exact hv
        have hz := hr.frozen n
        clear hr h1 h2 h3
        have i1 : 0 ≤ (n : Int) ∧ (n : Int) < 16 := by omega
        go_wp2_with fail
        go_roundw
        case rel =>
          have fB : Fr (at' B) w7 (w7.setCell ⟨B, n, none⟩ (.slice (some ⟨wr.heap.size, 0, none⟩) 64 64)) := fr_set _ _ _ _ (Fr.refl _ _)
          exact ⟨n + 1, by omega, by go_num, H7.out.1.keep fB (fun k hk e => by rw [(e : k = B)] at hk; exact H7.out.2.2.1.out hk), H7.out.2.1.newer fB hwB, H7.out.2.2.1.set hlt _ H7.out.2.2.2.1 H7.out.2.2.2.2.1 H7.out.2.2.2.2.2⟩
        case measure => simp [intOf]; omega
      · obtain rfl : n = 16 := by omega
        go_wp2_with fail
        go_meet
        exact ⟨h, F, TB⟩
  case rest =>
  clear hB F TB
  obtain ⟨hB, F, TB⟩ := hcut
  have HH : Hid (Fr none' w wc ∧ Told16 wc B 16 bs (boU x pm bm pr br O Q)) := ⟨F, TB⟩
  clear F TB
  obtain ⟨vv, hvv⟩ : ∃ vv, vv = dmaV bs 16 S s ad true b := ⟨_, rfl⟩
  obtain ⟨ee, hee⟩ : ∃ ee, ee = dmaE bs 16 S s ad true := ⟨_, rfl⟩
  have hD := hB.keep0 (Fr.refl none' wc).drew
  have rX := hB.row
  have hC := dma_bo wc.drew x pm bm pr br bi ji O Q bs bs S S s ad true b hb vv ee hD hvv.symm hee.symm
  obtain ⟨bs1, hbs1⟩ : ∃ bs1, bs1 = dmaB bs 16 S s ad true b := ⟨_, rfl⟩
  rw [← hbs1] at hC
  have hCF := HCF.out
  rw [← hbs1, ← hvv] at hCF
  have hem : (ee == 0) = m := by
    have e := HDM.out
    rw [← hee] at e
    cases hm : m with
    | true => rw [beq_iff_eq]; exact e.mpr hm
    | false =>
      rw [beq_eq_false_iff_ne]
      intro hc
      rw [e.mp hc] at hm
      cases hm
  clear HCF HDM hvv hee hbs1
  have HCF : Hid (Conf bs bs1 m true X.fr b vv ad) := hCF
  clear hCF
  go_wp2_with fail
  go_region_held3 (fun w' => w'.cell? ⟨x, 1, none⟩ = some (.pointer (some ⟨bi, 0, none⟩)) ∧ w'.cell? ⟨x, 0, none⟩ = some (.pointer (some ⟨pm, 0, none⟩))) (first | with_reducible exact ⟨rX.c1, rX.c0⟩ | exact ⟨rX.c1, rX.c0⟩) (first | (go_at_call 15; refine hC.mono ?_; rintro e w8 ⟨rfl, O1, h8, u8⟩; replace rX := h8.row))
  have u9 : ChgU wc (boU x pm bm pr br O Q) w8 (boU x pm bm pr br O1 Q) := (ChgU.none (Fr.refl none' wc).drew).trans u8
  have F9 := u9.fr0 HH.out.1 hUU
  have T8 := told_mono HH.out.2 (U' := fun k => boU x pm bm pr br O Q k ∨ boU x pm bm pr br O1 Q k) (fun k hk hu => by
    rcases hu with hu | hu
    · exact hu
    · rcases u9.2 k hu with e | e
      · exact e
      · omega)
  have T9 := told_mono (T8.keep u9.1 (fun _ h => Or.inl h)) (U' := boU x pm bm pr br O1 Q) (fun k hk hu => Or.inr hu)
  clear T8
  clear hD hC u8 rX hB u9 HH hUU
  have H9 : Hid (BoAt w8 x pm bm pr br bi ji O1 Q bs1 bs (dmaS bs 16 S s ad true) S ∧ Fr none' w w8 ∧ Told16 w8 B 16 bs (boU x pm bm pr br O1 Q)) := ⟨h8, F9.1, T9⟩
  clear h8 F9 T9
  have HAM : Hid (m = true → 0 ≤ ad ∧ ad < 65536) := fun e => by rw [HM.out] at e; exact (may_true e).2.1
  clear HM HX HR
  go_wp2_with fail
  clear hem
  cases m with
  | false =>
    go_loopw [28] (fun i wr => ∃ n : Nat, n ≤ 16 ∧ i = .int .i64 n ∧ BoAt wr x pm bm pr br bi ji O1 Q bs1 bs (dmaS bs 16 S s ad true) S ∧ Fr none' w wr ∧ Told16 wr B 16 bs (boU x pm bm pr br O1 Q)) (fun i _ => 16 - (intOf i).toNat)
    case atStart => exact ⟨0, by omega, rfl, H9.out.1, H9.out.2.1, H9.out.2.2⟩
    case round =>
      clear H9
      obtain ⟨n, hn, rfl, h, F, TB⟩ := hrel
      by_cases hlt : n < 16
      · have HH : Hid (Fr none' w wr ∧ Told16 wr B 16 bs (boU x pm bm pr br O1 Q)) := ⟨F, TB⟩
        clear F TB
        obtain ⟨x0, x1, x2, x3⟩ := h.row
        go_wp2_with fail
        refine (frame_ok _ _ _ _ _ _ h.ram hlt).mono ?_
        rintro e w7 ⟨rfl, f7, r7⟩
        obtain ⟨g, hg⟩ : ∃ g, g = wr.heap.size := ⟨_, rfl⟩
        rw [← hg] at r7 ⊢
        have h1 := h.ram.len
        have H7 : Hid (BoAt w7 x pm bm pr br bi ji O1 Q bs1 bs (dmaS bs 16 S s ad true) S ∧ Fr none' w w7 ∧ Told16 w7 B 16 bs (boU x pm bm pr br O1 Q) ∧ Row w7 g (byteVals (frameOf bs1 n)) 5 ∧ bs1.length = 64 * 16) := ⟨h.keep0 f7, HH.out.1.trans f7, HH.out.2.keep f7 (fun _ h => h.elim), r7, h1⟩
        clear x0 x1 x2 x3 f7 r7 h HH hg h1
        obtain ⟨cs, hr, h1, h2, h3⟩ := H7.out.2.2.1.row
        obtain ⟨g', hc', hr', _, _⟩ := h3 n hlt
        have HC : Hid (w7.cell? ⟨B, n, none⟩ = some (.slice (some ⟨g', 0, none⟩) 64 64) ∧ Row w7 B cs 47 ∧ Row w7 g' (byteVals (frameOf bs n)) 5) := ⟨(by rw [hr.cell]; exact hc'), hr, hr'⟩
        clear hr h1 h2 h3 hc' hr'
        have i1 : 0 ≤ (n : Int) ∧ (n : Int) < 16 := by omega
        go_upto_block 6 with fail
        go_cut [31, 32] from 177 to 231 (fun c o wx => Fr none' w7 wx)
        case first =>
          go_wp2_with fail
          go_loopw [31] (fun i wr => ∃ k : Nat, k ≤ 64 ∧ i = .int .i64 k ∧ Fr none' w7 wr) (fun i _ => 64 - (intOf i).toNat)
          case atStart => exact ⟨0, by omega, rfl, Fr.refl _ _⟩
          case round =>
            obtain ⟨k, hk, rfl, F7⟩ := hrel
            have rB := HC.out.2.1.keep F7 (fun h => h)
            have cB : wr.cell? ⟨B, n, none⟩ = some (.slice (some ⟨g', 0, none⟩) 64 64) := by
              rw [rB.cell, ← HC.out.2.1.cell]; exact HC.out.1
            clear rB
            by_cases hkl : k < 64
            · have i2 : 0 ≤ (k : Int) ∧ (k : Int) < 64 := by omega
              have cp := fby_cell H7.out.2.2.2.2 hlt hkl (H7.out.2.2.2.1.keep F7 (fun h => h))
              have cq := fby_cell HLEN.out hlt hkl (HC.out.2.2.keep F7 (fun h => h))
              have uk : decide ((k : Int) < 64) = true := decide_eq_true (by omega)
              have HQQ : Hid (wr.cell? ⟨B, n, none⟩ = some (.slice (some ⟨g', 0, none⟩) 64 64) ∧ wr.cell? ⟨g, k, none⟩ = some (.int .u8 ((fby bs1 n k : Nat) : Int)) ∧ wr.cell? ⟨g', k, none⟩ = some (.int .u8 ((fby bs n k : Nat) : Int))) := ⟨cB, cp, cq⟩
              have HF7 : Hid (Fr none' w7 wr) := F7
              clear cp cq F7
              obtain ⟨own, hown⟩ : ∃ own : Bool, own = (false && (true && (((n : Int) == X.fr) && ((k : Int) == ad.tmod 64)))) := ⟨_, rfl⟩
              have HOWN : Hid (own = (false && (true && (((n : Int) == X.fr) && ((k : Int) == ad.tmod 64))))) := hown
              clear hown
              go_upto_region 32 with fail
              go_cut [32] from 191 to 205 (fun c wx => c = .bool own ∧ wx = wr)
              case first =>
                have e0 : own = false := by rw [HOWN.out]; simp
                clear HOWN
                go_wp2_with fail; go_meet; exact ⟨by rw [e0], rfl⟩
              case rest =>
              obtain ⟨rfl, hw⟩ := hcut
              replace hw := hw.symm
              subst hw
              obtain ⟨cB, cp, cq⟩ := HQQ.out
              have HZ : Hid ((own = true → fby bs1 n k = b) ∧ (own = false → fby bs1 n k = fby bs n k)) := ⟨fun e => by
                  have e' := HOWN.out
                  rw [e] at e'
                  obtain ⟨q1, q2, q3, q4⟩ := and4 e'.symm
                  rw [beq_iff_eq] at q3 q4
                  have ha := HAM.out (by first | exact q1 | trivial)
                  exact HCF.out.own n k hlt hkl q1 q2 q3 (by rw [q4, Int.tmod_eq_emod_of_nonneg ha.1]),
                fun e => HCF.out.oth n k hlt hkl (fun h1 h2 h3 h4 => by
                  have e' := HOWN.out
                  rw [e] at e'
                  have ha := HAM.out (by first | exact h1 | trivial)
                  have e2 : (false && (true && (((n : Int) == X.fr) && ((k : Int) == ad.tmod 64)))) = true := by
                    exact and4_mk h1 h2 (by rw [beq_iff_eq]; exact h3) (by rw [beq_iff_eq, h4, Int.tmod_eq_emod_of_nonneg ha.1])
                  rw [e2] at e'
                  cases e')⟩
              cases hoo : own with
              | true =>
                rw [HZ.out.1 hoo] at cp
                go_wp2_with fail
                go_quiet (fail)
                clear cp cq cB
                go_wp2_with fail
                go_roundw
                case rel => exact ⟨k + 1, by omega, by go_num, HF7.out.trans (fr_drewN _ _)⟩
                case measure => simp [intOf]; omega
              | false =>
                rw [HZ.out.2 hoo] at cp
                go_wp2_with fail
                go_quiet (fail)
                clear cp cq cB
                go_wp2_with fail
                go_roundw
                case rel => exact ⟨k + 1, by omega, by go_num, HF7.out.trans (fr_drewN _ _)⟩
                case measure => simp [intOf]; omega
            · obtain rfl : k = 64 := by omega
              go_wp2_with fail
              go_meet
              exact F7
        case rest =>
        have FF : Fr none' w7 wc := hcut
        go_wp2_with fail
        go_roundw
        case rel => exact ⟨n + 1, by omega, by go_num, H7.out.1.keep0 FF, H7.out.2.1.trans FF, H7.out.2.2.1.keep FF (fun _ h => h.elim)⟩
        case measure => simp [intOf]; omega
      · obtain rfl : n = 16 := by omega
        go_wp2_with fail
        go_ret
        exact ⟨rfl, F.below (Nat.le_refl _) (fun _ h => h.elim)⟩
  | true =>
    go_loopw [28] (fun i wr => ∃ n : Nat, n ≤ 16 ∧ i = .int .i64 n ∧ BoAt wr x pm bm pr br bi ji O1 Q bs1 bs (dmaS bs 16 S s ad true) S ∧ Fr none' w wr ∧ Told16 wr B 16 bs (boU x pm bm pr br O1 Q)) (fun i _ => 16 - (intOf i).toNat)
    case atStart => exact ⟨0, by omega, rfl, H9.out.1, H9.out.2.1, H9.out.2.2⟩
    case round =>
      clear H9
      obtain ⟨n, hn, rfl, h, F, TB⟩ := hrel
      by_cases hlt : n < 16
      · have HH : Hid (Fr none' w wr ∧ Told16 wr B 16 bs (boU x pm bm pr br O1 Q)) := ⟨F, TB⟩
        clear F TB
        obtain ⟨x0, x1, x2, x3⟩ := h.row
        go_wp2_with fail
        refine (frame_ok _ _ _ _ _ _ h.ram hlt).mono ?_
        rintro e w7 ⟨rfl, f7, r7⟩
        obtain ⟨g, hg⟩ : ∃ g, g = wr.heap.size := ⟨_, rfl⟩
        rw [← hg] at r7 ⊢
        have h1 := h.ram.len
        have H7 : Hid (BoAt w7 x pm bm pr br bi ji O1 Q bs1 bs (dmaS bs 16 S s ad true) S ∧ Fr none' w w7 ∧ Told16 w7 B 16 bs (boU x pm bm pr br O1 Q) ∧ Row w7 g (byteVals (frameOf bs1 n)) 5 ∧ bs1.length = 64 * 16) := ⟨h.keep0 f7, HH.out.1.trans f7, HH.out.2.keep f7 (fun _ h => h.elim), r7, h1⟩
        clear x0 x1 x2 x3 f7 r7 h HH hg h1
        obtain ⟨cs, hr, h1, h2, h3⟩ := H7.out.2.2.1.row
        obtain ⟨g', hc', hr', _, _⟩ := h3 n hlt
        have HC : Hid (w7.cell? ⟨B, n, none⟩ = some (.slice (some ⟨g', 0, none⟩) 64 64) ∧ Row w7 B cs 47 ∧ Row w7 g' (byteVals (frameOf bs n)) 5) := ⟨(by rw [hr.cell]; exact hc'), hr, hr'⟩
        clear hr h1 h2 h3 hc' hr'
        have i1 : 0 ≤ (n : Int) ∧ (n : Int) < 16 := by omega
        go_upto_block 6 with fail
        go_cut [31, 32] from 177 to 231 (fun c o wx => Fr none' w7 wx)
        case first =>
          go_wp2_with fail
          go_loopw [31] (fun i wr => ∃ k : Nat, k ≤ 64 ∧ i = .int .i64 k ∧ Fr none' w7 wr) (fun i _ => 64 - (intOf i).toNat)
          case atStart => exact ⟨0, by omega, rfl, Fr.refl _ _⟩
          case round =>
            obtain ⟨k, hk, rfl, F7⟩ := hrel
            have rB := HC.out.2.1.keep F7 (fun h => h)
            have cB : wr.cell? ⟨B, n, none⟩ = some (.slice (some ⟨g', 0, none⟩) 64 64) := by
              rw [rB.cell, ← HC.out.2.1.cell]; exact HC.out.1
            clear rB
            by_cases hkl : k < 64
            · have i2 : 0 ≤ (k : Int) ∧ (k : Int) < 64 := by omega
              have cp := fby_cell H7.out.2.2.2.2 hlt hkl (H7.out.2.2.2.1.keep F7 (fun h => h))
              have cq := fby_cell HLEN.out hlt hkl (HC.out.2.2.keep F7 (fun h => h))
              have uk : decide ((k : Int) < 64) = true := decide_eq_true (by omega)
              have HQQ : Hid (wr.cell? ⟨B, n, none⟩ = some (.slice (some ⟨g', 0, none⟩) 64 64) ∧ wr.cell? ⟨g, k, none⟩ = some (.int .u8 ((fby bs1 n k : Nat) : Int)) ∧ wr.cell? ⟨g', k, none⟩ = some (.int .u8 ((fby bs n k : Nat) : Int))) := ⟨cB, cp, cq⟩
              have HF7 : Hid (Fr none' w7 wr) := F7
              clear cp cq F7
              obtain ⟨own, hown⟩ : ∃ own : Bool, own = (true && (true && (((n : Int) == X.fr) && ((k : Int) == ad.tmod 64)))) := ⟨_, rfl⟩
              have HOWN : Hid (own = (true && (true && (((n : Int) == X.fr) && ((k : Int) == ad.tmod 64))))) := hown
              clear hown
              go_upto_region 32 with fail
              go_cut [32] from 191 to 205 (fun c wx => c = .bool own ∧ wx = wr)
              case first =>
                cases hnn : ((n : Int) == X.fr) with
                | false =>
                  have HQ : Hid (own = false) := (show _ = _ from by rw [HOWN.out, hnn]; rfl)
                  go_wp2_with fail; go_meet; exact ⟨by rw [HQ.out], rfl⟩
                | true =>
                  have HQ : Hid (own = ((k : Int) == ad.tmod 64)) := (show _ = _ from by rw [HOWN.out, hnn]; rfl)
                  go_wp2_with fail; go_meet; exact ⟨by rw [HQ.out], rfl⟩
              case rest =>
              obtain ⟨rfl, hw⟩ := hcut
              replace hw := hw.symm
              subst hw
              obtain ⟨cB, cp, cq⟩ := HQQ.out
              have HZ : Hid ((own = true → fby bs1 n k = b) ∧ (own = false → fby bs1 n k = fby bs n k)) := ⟨fun e => by
                  have e' := HOWN.out
                  rw [e] at e'
                  obtain ⟨q1, q2, q3, q4⟩ := and4 e'.symm
                  rw [beq_iff_eq] at q3 q4
                  have ha := HAM.out (by first | exact q1 | trivial)
                  exact HCF.out.own n k hlt hkl q1 q2 q3 (by rw [q4, Int.tmod_eq_emod_of_nonneg ha.1]),
                fun e => HCF.out.oth n k hlt hkl (fun h1 h2 h3 h4 => by
                  have e' := HOWN.out
                  rw [e] at e'
                  have ha := HAM.out (by first | exact h1 | trivial)
                  have e2 : (true && (true && (((n : Int) == X.fr) && ((k : Int) == ad.tmod 64)))) = true := by
                    exact and4_mk h1 h2 (by rw [beq_iff_eq]; exact h3) (by rw [beq_iff_eq, h4, Int.tmod_eq_emod_of_nonneg ha.1])
                  rw [e2] at e'
                  cases e')⟩
              cases hoo : own with
              | true =>
                rw [HZ.out.1 hoo] at cp
                go_wp2_with fail
                go_quiet (fail)
                clear cp cq cB
                go_wp2_with fail
                go_roundw
                case rel => exact ⟨k + 1, by omega, by go_num, HF7.out.trans (fr_drewN _ _)⟩
                case measure => simp [intOf]; omega
              | false =>
                rw [HZ.out.2 hoo] at cp
                go_wp2_with fail
                go_quiet (fail)
                clear cp cq cB
                go_wp2_with fail
                go_roundw
                case rel => exact ⟨k + 1, by omega, by go_num, HF7.out.trans (fr_drewN _ _)⟩
                case measure => simp [intOf]; omega
            · obtain rfl : k = 64 := by omega
              go_wp2_with fail
              go_meet
              exact F7
        case rest =>
        have FF : Fr none' w7 wc := hcut
        have hnx : ((n : Int) == X.fr) = true ∨ ((n : Int) == X.fr) = false := by cases ((n : Int) == X.fr) <;> simp
        rcases hnx with hnx | hnx
        · have ha := HAM.out (by first | exact rfl | trivial)
          obtain ⟨k0, hk0⟩ : ∃ k0 : Nat, ad.tmod 64 = (k0 : Int) := ⟨(ad % 64).toNat, by rw [Int.tmod_eq_emod_of_nonneg ha.1]; omega⟩
          have hk1 : (k0 : Int) = ad % 64 := by rw [← hk0, Int.tmod_eq_emod_of_nonneg ha.1]
          have hk64 : k0 < 64 := by omega
          have cp := fby_cell H7.out.2.2.2.2 hlt hk64 (H7.out.2.2.2.1.keep FF (fun h => h))
          rw [← HCF.out.val n hlt rfl (by rw [beq_iff_eq] at hnx; exact hnx) k0 hk1] at cp
          have i3 : 0 ≤ (k0 : Int) ∧ (k0 : Int) < 64 := by omega
          clear hk1 ha
          go_wp2_with fail
          go_roundw
          case rel => exact ⟨n + 1, by omega, by go_num, H7.out.1.keep0 FF, H7.out.2.1.trans FF, H7.out.2.2.1.keep FF (fun _ h => h.elim)⟩
          case measure => simp [intOf]; omega
        · go_wp2_with fail
          go_roundw
          case rel => exact ⟨n + 1, by omega, by go_num, H7.out.1.keep0 FF, H7.out.2.1.trans FF, H7.out.2.2.1.keep FF (fun _ h => h.elim)⟩
          case measure => simp [intOf]; omega
      · obtain rfl : n = 16 := by omega
        go_wp2_with fail
        go_ret
        exact ⟨rfl, F.below (Nat.le_refl _) (fun _ h => h.elim)⟩

end Go.Proofs.Ythmombgogmgobaa
