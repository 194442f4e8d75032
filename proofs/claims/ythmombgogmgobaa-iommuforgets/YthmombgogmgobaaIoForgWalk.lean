/-
  The walk of the law IommuForgets over the translation: it answers true. No statement is proved here.
-/
import Derived.Test.YthmombgogmgobaaIoForgT
namespace Go.Proofs.Ythmombgogmgobaa
open Go.RowKit

set_option maxHeartbeats 16000000 in
set_option maxRecDepth 100000 in
theorem ioforg_any (a0 : Option Addr) (len cap : Nat) (a1 : Option Addr) (len1 cap1 : Nat) (w : World) (hl : len ≤ 9223372036854775807) (hP : ∃ P, Pqs w a0 len P) (hl1 : len1 ≤ 9223372036854775807) (hA : ∃ A, Aqs w a1 len1 A) :
    Calls Try.prog 5 #[.slice a0 len cap, .slice a1 len1 cap1] w fun e w' => e = .returned (.bool true) ∧ Below w.heap.size w w' := by
  obtain ⟨P, hP⟩ := hP
  obtain ⟨A, hA⟩ := hA
  have HP : Hid (Pqs w a0 len P) := hP
  have HA : Hid (Aqs w a1 len1 A) := hA
  clear hA hP
  go_enter Try.func5, Try.ntmps5
  go_wp2_with fail
  refine (ioawake_any _).mono ?_
  rintro e w1 ⟨rfl, f1⟩
  go_upto_block 0 with fail
  go_cut [6, 7] from 21 to 51 (fun v i wx => ∃ (n : Nat) (Q : Nat → Pq), n ≤ 100 ∧ (∀ j, j < n → (Q j).l = decide (5 < (Q j).f)) ∧ Fr none' w wx ∧ OwnQ wx w.heap.size v n Q)
  case first =>
    go_wp2_with fail
    go_loopw [6, 7] (fun v i wr => ∃ (k n : Nat) (Q : Nat → Pq), k ≤ len ∧ k ≤ 100 ∧ i = .int .i64 k ∧ n ≤ k ∧ (∀ j, j < n → (Q j).l = decide (5 < (Q j).f)) ∧ Fr none' w wr ∧ OwnQ wr w.heap.size v n Q) (fun _ i _ => 100 - (intOf i).toNat)
    case atStart => exact ⟨0, 0, P, by omega, by omega, rfl, by omega, fun j hj => by omega, f1, ownq_nil _ _ _⟩
    case round =>
      clear f1
      obtain ⟨k, n, Q, hk, hk2, rfl, hn, hq, fk, ok⟩ := hrel
      by_cases hlt : k < len
      · by_cases hlt2 : k < 100
        · obtain ⟨b, o, rfl, pk0⟩ := HP.out k hlt
          have pk := pk0.keep fk (fun h => h)
          clear pk0
          have i1 : 0 ≤ (k : Int) ∧ (k : Int) < (len : Int) := by omega
          have uk1 : decide ((k : Int) < (len : Int)) = true := decide_eq_true (by omega)
          have uk2 : decide ((k : Int) < 100) = true := decide_eq_true (by omega)
          have HQ : Hid (∀ j, j < n → (Q j).l = decide (5 < (Q j).f)) := hq
          have HK : Hid (Fr none' w wr ∧ OwnQ wr w.heap.size u6 n Q) := ⟨fk, ok⟩
          obtain ⟨c0, c1, c2, c3, c4, c5⟩ := pk
          clear hq fk ok
          cases hle : ((P k).l == decide (5 < (P k).f)) with
          | false =>
            go_wp2_with fail
            go_quiet (fail)
            clear c0 c1 c2 c3 c4 c5
            go_wp2_with fail
            go_roundw
            case rel => exact ⟨k + 1, n, Q, by omega, by omega, by go_num, by omega, HQ.out, HK.out.1.trans (fr_drewN _ _), HK.out.2.keep0 (fr_drewN _ _)⟩
            case measure => simp [intOf]; omega
          | true =>
            have HLE : Hid ((P k).l = decide (5 < (P k).f)) := (show _ = _ from by simpa using hle)
            go_upto_region 6 with fail
            go_quiet (fail)
            clear hle
            obtain ⟨W, hW⟩ : ∃ W, W = wr.drewN nq := ⟨_, rfl⟩
            have fW := fr_drewN wr nq
            rw [← hW] at fW ⊢
            replace c0 := cell_keep fW c0 (fun h => h)
            replace c1 := cell_keep fW c1 (fun h => h)
            replace c2 := cell_keep fW c2 (fun h => h)
            replace c3 := cell_keep fW c3 (fun h => h)
            replace c4 := cell_keep fW c4 (fun h => h)
            replace c5 := cell_keep fW c5 (fun h => h)
            have fk := HK.out.1.trans fW
            have ok := HK.out.2.keep0 fW
            have g0 := (Fr.refl none' W).alloc (.cells (pqV (P k)) 31)
            obtain ⟨v', w4, HR, f4, o4⟩ := append_pq (W.alloc (.cells (pqV (P k)) 31)) w.heap.size ⟨W.heap.size, 0, none⟩ u6 n Q (P k) (by have := fk.size; have := g0.size; omega) (ok.keep0 g0) (by omega) (laid_pq W (P k))
            have F4 : Hid (Fr none' w w4) := (fk.trans g0).ownQ f4 (ok.keep0 g0)
            have O4 : Hid (OwnQ w4 w.heap.size v' (n + 1) (updQ Q n (P k))) := o4
            unfold pqV at HR
            clear fW hW HK g0 f4 o4 fk ok
            go_wp2_with (at_builtin; refine wpList_append_run rfl _ _ _ rfl _ _ rfl rfl _ _ HR ?_)
            go_roundw
            case rel =>
              exact ⟨k + 1, n + 1, _, by omega, by omega, by go_num, by omega, fun j hj => by
                unfold updQ
                by_cases e : j = n
                · rw [if_pos e]; exact HLE.out
                · rw [if_neg e]; exact HQ.out j (by omega), F4.out, O4.out⟩
            case measure => simp [intOf]; omega
        · obtain rfl : k = 100 := by omega
          have uk1 : decide (((100 : Nat) : Int) < (len : Int)) = true := decide_eq_true (by omega)
          go_wp2_with fail
          go_meet
          exact ⟨n, Q, hn, hq, fk, ok⟩
      · obtain rfl : k = len := by omega
        go_wp2_with fail
        go_meet
        exact ⟨n, Q, by omega, hq, fk, ok⟩
  case rest =>
  clear f1
  obtain ⟨n, R, hn, hq, F, hO⟩ := hcut
  obtain ⟨a6, cap6, rfl, hP⟩ := hO.puts
  obtain ⟨ht, hlen⟩ := mdB_ok hq
  clear hO hq HP
  go_wp2_with fail
  refine (iomade_any _ a6 n cap6 R (by omega) hP).mono ?_
  rintro e w2 ⟨x, Ux, rfl, f2, hx, hUx⟩
  replace hP := hP.keep f2
  go_wp2_with fail
  refine (iomade_any _ a6 n cap6 R (by omega) hP).mono ?_
  rintro e w3 ⟨y, Uy, rfl, f3, hy, hUy⟩
  have HT0 : Hid (Tw w w3 x y Ux Uy (mdB R n) (mdB R n) io0 io0 ∧ Fg (mdB R n) io0 io0) := ⟨⟨(F.trans f2).trans f3, hx.off.keep0 f3, hy.off, fun k hk => Nat.le_trans F.size (hUx k hk), fun k hk => Nat.le_trans (F.trans f2).size (hUy k hk), fun k hk hk' => by have p := hx.lt k hk; have q := hUy k hk'; omega⟩, fg0 ht hlen⟩
  clear F f2 f3 hx hy hUx hUy hP ht hlen
  go_upto_block 2 with fail
  go_cut [10, 11, 12, 13, 14, 15, 16] from 62 to 155 (fun i a j b e c f wx => ∃ (Ux Uy : Nat → Prop) (bs : List UInt8) (S T : Io), Tw w wx x y Ux Uy bs bs S T ∧ Fg bs S T)
  case first =>
    go_wp2_with fail
    go_loopw [10] (fun i wr => ∃ (k : Nat) (Ux Uy : Nat → Prop) (bs : List UInt8) (S T : Io), k ≤ len1 ∧ k ≤ 100 ∧ i = .int .i64 k ∧ Hid (Tw w wr x y Ux Uy bs bs S T ∧ Fg bs S T)) (fun i _ => 100 - (intOf i).toNat)
    case atStart => exact ⟨0, Ux, Uy, _, _, _, by omega, by omega, rfl, HT0⟩
    case round =>
      clear HT0
      obtain ⟨k, Ux, Uy, bs, S, T, hk, hk2, rfl, HT⟩ := hrel
      by_cases hlt : k < len1
      · by_cases hlt2 : k < 100
        · obtain ⟨bb, o, rfl, ak⟩ := HA.out k hlt
          replace ak := ak.keep HT.out.1.fr (fun h => h)
          have i1 : 0 ≤ (k : Int) ∧ (k : Int) < (len1 : Int) := by omega
          have uk1 : decide ((k : Int) < (len1 : Int)) = true := decide_eq_true (by omega)
          have uk2 : decide ((k : Int) < 100) = true := decide_eq_true (by omega)
          obtain ⟨c0, c1, c2, c3, c4, ⟨c5, c6, c7, c8, c9, c10⟩, hbk⟩ := ak
          have HBK : Hid ((A k).b < 256) := hbk
          clear hbk
          go_upto_region 16 with fail
          clear c0 c1 c2 c3 c4 c5 c6 c7 c8 c9 c10
          have fA := (Fr.refl none' wr).alloc (.cells #[.int .i64 (A k).d, .int .i64 (A k).s, .int .i64 (A k).n, .bool (A k).wr, .int .u8 ((A k).b : Int), .int .i64 (A k).q.t, .int .i64 (A k).q.i, .bool (A k).q.v, .bool (A k).q.l, .int .i64 (A k).q.r, .int .i64 (A k).q.f] 33)
          have HAB : Hid (Ab (wr.alloc (.cells #[.int .i64 (A k).d, .int .i64 (A k).s, .int .i64 (A k).n, .bool (A k).wr, .int .u8 ((A k).b : Int), .int .i64 (A k).q.t, .int .i64 (A k).q.i, .bool (A k).q.v, .bool (A k).q.l, .int .i64 (A k).q.r, .int .i64 (A k).q.f] 33)) wr.heap.size (A k) Ux Uy) := ⟨row_alloc _ _ _, fun e => by have := HT.out.1.hx.lt _ e; omega, fun e => by have := HT.out.1.hy.lt _ e; omega⟩
          have HTT : Hid (Tw w (wr.alloc (.cells #[.int .i64 (A k).d, .int .i64 (A k).s, .int .i64 (A k).n, .bool (A k).wr, .int .u8 ((A k).b : Int), .int .i64 (A k).q.t, .int .i64 (A k).q.i, .bool (A k).q.v, .bool (A k).q.l, .int .i64 (A k).q.r, .int .i64 (A k).q.f] 33)) x y Ux Uy bs bs S T ∧ Fg bs S T) := ⟨HT.out.1.keep0 fA, HT.out.2⟩
          obtain ⟨W, hW⟩ : ∃ W, W = wr.alloc (.cells #[.int .i64 (A k).d, .int .i64 (A k).s, .int .i64 (A k).n, .bool (A k).wr, .int .u8 ((A k).b : Int), .int .i64 (A k).q.t, .int .i64 (A k).q.i, .bool (A k).q.v, .bool (A k).q.l, .int .i64 (A k).q.r, .int .i64 (A k).q.f] 33) := ⟨_, rfl⟩
          obtain ⟨B, hB⟩ : ∃ B, B = wr.heap.size := ⟨_, rfl⟩
          rw [← hW, ← hB] at HAB
          rw [← hW] at HTT ⊢
          rw [← hB]
          clear hW hB fA HT
          obtain ⟨a, ha⟩ : ∃ a, a = A k := ⟨_, rfl⟩
          rw [← ha] at HAB HBK
          clear ha
          go_cut [88] from 76 to 88 (fun c wx => c = .bool (skA a) ∧ wx = W)
          case first =>
            obtain ⟨c0, c1, c2, c3, c4, c5, c6, c7, c8, c9, c10⟩ := HAB.out.cells
            clear c1 c3 c4 c5 c6 c7 c8 c9 c10
            cases t1 : (a.d == 1) with
            | false =>
              have HQ : Hid (skA a = (a.d == 8)) := (show _ = _ from by unfold skA; rw [t1]; rfl)
              go_wp2_with fail; go_meet; exact ⟨by rw [HQ.out], rfl⟩
            | true =>
              cases t2 : decide (5 < a.n) with
              | false =>
                have HQ : Hid (skA a = (a.d == 8)) := (show _ = _ from by unfold skA; rw [t1, t2]; rfl)
                go_wp2_with fail; go_meet; exact ⟨by rw [HQ.out], rfl⟩
              | true =>
                have HQ : Hid (skA a = true) := (show _ = _ from by unfold skA; rw [t1, t2]; rfl)
                go_wp2_with fail; go_meet; exact ⟨by rw [HQ.out], rfl⟩
          case rest =>
          obtain ⟨rfl, hw⟩ := hcut
          replace hw := hw.symm
          subst hw
          cases hsk : skA a with
          | true =>
            go_wp2_with fail
            go_roundw
            case rel => exact ⟨k + 1, Ux, Uy, bs, S, T, by omega, by omega, by go_num, HTT⟩
            case measure => simp [intOf]; omega
          | false =>
            have HSK : Hid (¬ (a.d = 1 ∧ 5 < a.n) ∧ a.d ≠ 8) := ⟨fun e => by unfold skA at hsk; simp [e.1, e.2] at hsk, fun e => by unfold skA at hsk; simp [e] at hsk⟩
            go_upto_block 4 with fail
            go_cut [12] from 89 to 98 (fun i wx => ∃ (Uy : Nat → Prop) (T : Io), Hid (Tw w wx x y Ux Uy bs bs S T ∧ Fg bs S T ∧ Ab wx B a Ux Uy))
            case first =>
              go_wp2_with fail
              go_loopw [12] (fun i wr => ∃ (j : Nat) (Uy : Nat → Prop) (T : Io), j ≤ 8 ∧ i = .int .i64 j ∧ Hid (Tw w wr x y Ux Uy bs bs S T ∧ Fg bs S T ∧ Ab wr B a Ux Uy)) (fun i _ => 8 - (intOf i).toNat)
              case atStart => exact ⟨0, Uy, T, by omega, rfl, ⟨HTT.out.1, HTT.out.2, HAB.out⟩⟩
              case round =>
                clear HTT HAB
                obtain ⟨j, Uy, T, hj, rfl, HE⟩ := hrel
                by_cases hj8 : j < 8
                · have uj : decide ((j : Int) < 8) = true := decide_eq_true (by omega)
                  obtain ⟨pm, bm, pr, br, bi, ji, O, Q, bs', S', h, hU⟩ := HE.out.1.hy
                  obtain ⟨x0, x1, x2, x3⟩ := h.row
                  go_wp2_with fail
                  refine (ioevict_any _ _ _ _ _ h.io).mono ?_
                  rintro e w4 ⟨rfl, cc⟩
                  obtain ⟨O', h', u⟩ := h.stepI cc
                  rw [← hU] at u
                  have HE' : Hid (Tw w w4 x y Ux (boU y pm bm pr br O' Q) bs bs S (evS T (j : Int)) ∧ Fg bs S (evS T (j : Int)) ∧ Ab w4 B a Ux (boU y pm bm pr br O' Q)) := ⟨HE.out.1.stepY ⟨pm, bm, pr, br, bi, ji, O', Q, bs', S', h', rfl⟩ u, HE.out.2.1.evT _, HE.out.2.2.stepY u⟩
                  clear x0 x1 x2 x3 cc h' u h hU HE
                  go_wp2_with fail
                  go_roundw
                  case rel => exact ⟨j + 1, _, _, by omega, by go_num, HE'⟩
                  case measure => simp [intOf]; omega
                · obtain rfl : j = 8 := by omega
                  go_wp2_with fail
                  go_meet
                  exact ⟨Uy, T, HE⟩
            case rest =>
            clear HTT HAB
            obtain ⟨Uy, T, HE⟩ := hcut
            obtain ⟨k0, k1, k2, k3, k4, k5, k6, k7, k8, k9, k10⟩ := HE.out.2.2.cells
            cases t3 : (a.d == 3) with
            | false =>
              have HD3 : Hid (a.d ≠ 3) := (show _ ≠ _ from by simpa using t3)
              go_wp2_with fail
              refine (does_offI _ _ _ _ _ a HD3.out HSK.out.2 HE.out.1.hx).mono ?_
              rintro e w4 ⟨⟨b1, rfl⟩, Ux1, hx1, u1⟩
              have HE1 : Hid (Tw w w4 x y Ux1 Uy bs bs (actS bs S a) T ∧ Ab w4 B a Ux1 Uy) := ⟨HE.out.1.stepX hx1 u1, HE.out.2.2.stepX u1⟩
              clear hx1 u1 k0 k1 k2 k3 k4 k5 k6 k7 k8 k9 k10
              obtain ⟨k0, k1, k2, k3, k4, k5, k6, k7, k8, k9, k10⟩ := HE1.out.2.cells
              go_wp2_with fail
              refine (does_offI _ _ _ _ _ a HD3.out HSK.out.2 HE1.out.1.hy).mono ?_
              rintro e w5 ⟨⟨b2, rfl⟩, Uy1, hy1, u2⟩
              have HE2 : Hid (Tw w w5 x y Ux1 Uy1 bs bs (actS bs S a) (actS bs T a) ∧ Fg bs (actS bs S a) (actS bs T a)) := ⟨HE1.out.1.stepY hy1 u2, HE.out.2.1.act HSK.out.1 HD3.out⟩
              clear hy1 u2 k0 k1 k2 k3 k4 k5 k6 k7 k8 k9 k10
              go_wp2_with fail
              go_roundw
              case rel => exact ⟨k + 1, _, _, _, _, _, by omega, by omega, by go_num, HE2⟩
              case measure => simp [intOf]; omega
            | true =>
              obtain ⟨⟨g1, g2, g3⟩, hG⟩ := HE.out.2.1.dma HE.out.1.hx.ok a.s a.n a.wr a.b
              obtain ⟨vv, hvv⟩ : ∃ vv, vv = dmaV bs 16 S a.s a.n a.wr a.b := ⟨_, rfl⟩
              obtain ⟨ee, hee⟩ : ∃ ee, ee = dmaE bs 16 S a.s a.n a.wr := ⟨_, rfl⟩
              obtain ⟨bs1, hbs1⟩ : ∃ bs1, bs1 = dmaB bs 16 S a.s a.n a.wr a.b := ⟨_, rfl⟩
              rw [← hvv] at g1
              rw [← hee] at g2
              rw [← hbs1] at g3 hG
              go_upto_region 22 with fail
              obtain ⟨pm, bm, pr, br, bi, ji, O, Q, bs', S', h, hU⟩ := HE.out.1.hx
              have hD := h.keep0 (Fr.refl none' wc).drew
              have rX := h.row
              have hC := dma_bo wc.drew x pm bm pr br bi ji O Q bs bs' S S' a.s a.n a.wr a.b HBK.out vv ee hD hvv.symm hee.symm
              rw [← hbs1] at hC
              have HNB : Hid (¬ boU x pm bm pr br O Q B) := (show ¬ _ from by rw [← hU]; exact HE.out.2.2.nx)
              have HGG : Hid (dmaV bs 16 T a.s a.n a.wr a.b = vv ∧ dmaE bs 16 T a.s a.n a.wr = ee ∧ dmaB bs 16 T a.s a.n a.wr a.b = bs1 ∧ Fg bs1 (dmaS bs 16 S a.s a.n a.wr) (dmaS bs 16 T a.s a.n a.wr)) := ⟨g1, g2, g3, hG⟩
              have HUU : Hid (Ux = boU x pm bm pr br O Q) := hU
              clear hvv hee hbs1 g1 g2 g3 hG k5 k6 k7 k8 k9 k10 h hU
              go_region_held3 (fun w' => w'.cell? ⟨x, 1, none⟩ = some (.pointer (some ⟨bi, 0, none⟩)) ∧ w'.cell? ⟨x, 0, none⟩ = some (.pointer (some ⟨pm, 0, none⟩)) ∧ w'.cell? ⟨B, 1, none⟩ = some (.int .i64 a.s) ∧ w'.cell? ⟨B, 2, none⟩ = some (.int .i64 a.n) ∧ w'.cell? ⟨B, 3, none⟩ = some (.bool a.wr) ∧ w'.cell? ⟨B, 4, none⟩ = some (.int .u8 (a.b : Int))) (first | with_reducible exact ⟨rX.c1, rX.c0, k1, k2, k3, k4⟩ | exact ⟨rX.c1, rX.c0, k1, k2, k3, k4⟩) (first | (go_at_call 15; refine hC.mono ?_; rintro e w4 ⟨rfl, O1, h', u⟩; have fu := (ChgU.none (U := boU x pm bm pr br O Q) (Fr.refl none' wc).drew).trans u; replace k1 := cell_keep fu.1 k1 HNB.out; replace k2 := cell_keep fu.1 k2 HNB.out; replace k3 := cell_keep fu.1 k3 HNB.out; replace k4 := cell_keep fu.1 k4 HNB.out; replace rX := h'.row))
              rw [← HUU.out] at fu
              have HE1 : Hid (Tw w w4 x y (boU x pm bm pr br O1 Q) Uy bs1 bs (dmaS bs 16 S a.s a.n a.wr) T ∧ Ab w4 B a (boU x pm bm pr br O1 Q) Uy) := ⟨HE.out.1.stepX ⟨pm, bm, pr, br, bi, ji, O1, Q, bs', S', h', rfl⟩ fu, HE.out.2.2.stepX fu⟩
              clear hD hC h' u fu rX k0 k1 k2 k3 k4 HNB HUU HE
              go_upto_region 23 with fail
              obtain ⟨k0, k1, k2, k3, k4, k5, k6, k7, k8, k9, k10⟩ := HE1.out.2.cells
              clear k0 k5 k6 k7 k8 k9 k10
              obtain ⟨pm', bm', pr', br', bi', ji', O', Q', bs2, S2, h, hU⟩ := HE1.out.1.hy
              have hD := h.keep0 (Fr.refl none' w4).drew
              have rX := h.row
              have hC := dma_bo w4.drew y pm' bm' pr' br' bi' ji' O' Q' bs bs2 T S2 a.s a.n a.wr a.b HBK.out vv ee hD HGG.out.1 HGG.out.2.1
              rw [HGG.out.2.2.1] at hC
              have HNB : Hid (¬ boU y pm' bm' pr' br' O' Q' B) := (show ¬ _ from by rw [← hU]; exact HE1.out.2.ny)
              have HUU : Hid (Uy = boU y pm' bm' pr' br' O' Q') := hU
              clear h hU
              go_region_held3 (fun w' => w'.cell? ⟨y, 1, none⟩ = some (.pointer (some ⟨bi', 0, none⟩)) ∧ w'.cell? ⟨y, 0, none⟩ = some (.pointer (some ⟨pm', 0, none⟩)) ∧ w'.cell? ⟨B, 1, none⟩ = some (.int .i64 a.s) ∧ w'.cell? ⟨B, 2, none⟩ = some (.int .i64 a.n) ∧ w'.cell? ⟨B, 3, none⟩ = some (.bool a.wr) ∧ w'.cell? ⟨B, 4, none⟩ = some (.int .u8 (a.b : Int))) (first | with_reducible exact ⟨rX.c1, rX.c0, k1, k2, k3, k4⟩ | exact ⟨rX.c1, rX.c0, k1, k2, k3, k4⟩) (first | (go_at_call 15; refine hC.mono ?_; rintro e w5 ⟨rfl, O2, h', u⟩; have fu := (ChgU.none (U := boU y pm' bm' pr' br' O' Q') (Fr.refl none' w4).drew).trans u; replace k1 := cell_keep fu.1 k1 HNB.out; replace k2 := cell_keep fu.1 k2 HNB.out; replace k3 := cell_keep fu.1 k3 HNB.out; replace k4 := cell_keep fu.1 k4 HNB.out; replace rX := h'.row))
              rw [← HUU.out] at fu
              have HE2 : Hid (Tw w w5 x y (boU x pm bm pr br O1 Q) (boU y pm' bm' pr' br' O2 Q') bs1 bs1 (dmaS bs 16 S a.s a.n a.wr) (dmaS bs 16 T a.s a.n a.wr) ∧ Fg bs1 (dmaS bs 16 S a.s a.n a.wr) (dmaS bs 16 T a.s a.n a.wr)) := ⟨HE1.out.1.stepY ⟨pm', bm', pr', br', bi', ji', O2, Q', bs2, S2, h', rfl⟩ fu, HGG.out.2.2.2⟩
              clear hD hC h' u fu rX k1 k2 k3 k4 HNB HUU HE1 HGG
              go_wp2_with fail
              go_roundw
              case rel => exact ⟨k + 1, _, _, _, _, _, by omega, by omega, by go_num, HE2⟩
              case measure => simp [intOf]; omega
        · obtain rfl : k = 100 := by omega
          have uk1 : decide (((100 : Nat) : Int) < (len1 : Int)) = true := decide_eq_true (by omega)
          go_wp2_with fail
          go_meet
          exact ⟨Ux, Uy, bs, S, T, HT.out⟩
      · obtain rfl : k = len1 := by omega
        go_wp2_with fail
        go_meet
        exact ⟨Ux, Uy, bs, S, T, HT.out⟩
  case rest =>
  clear HT0
  obtain ⟨Ux, Uy, bs, S, T, hT, hG⟩ := hcut
  have hre : T.re = S.re := hG.re
  have hm8 : S.re.length ≤ 8 := hT.hx.ok.re
  obtain ⟨m, hm⟩ : ∃ m, m = S.re.length := ⟨_, rfl⟩
  rw [← hm] at hm8
  have HRE : Hid (T.re = S.re ∧ m = S.re.length) := ⟨hre, hm⟩
  have HT : Hid (Tw w wc x y Ux Uy bs bs S T) := hT
  clear hG hT hre hm
  obtain ⟨pm, bm, pr, br, bi, ji, O, Q, bs', S', h, hU⟩ := HT.out.hx
  obtain ⟨x0, x1, x2, x3⟩ := h.row
  go_wp2_with fail
  refine (records_any _ _ _ _ h.io).mono ?_
  rintro e w5 ⟨g5, rfl, hg5, f5, hl5⟩
  rw [← HRE.out.2] at hl5 ⊢
  have HT5 : Hid (Tw w w5 x y Ux Uy bs bs S T ∧ RcS w5 (.slice (some ⟨g5, 0, none⟩) m m) S.re) := ⟨HT.out.keep0 f5, hl5⟩
  clear x0 x1 x2 x3 h hU hg5 f5 hl5 HT
  obtain ⟨pm, bm, pr, br, bi, ji, O, Q, bs', S', h, hU⟩ := HT5.out.1.hy
  obtain ⟨x0, x1, x2, x3⟩ := h.row
  go_wp2_with fail
  refine (records_any _ _ _ _ h.io).mono ?_
  rintro e w6 ⟨g6, rfl, hg6, f6, hl6⟩
  rw [HRE.out.1] at hl6 ⊢
  rw [← HRE.out.2] at hl6 ⊢
  have HV6 : Hid (Fr none' w w6 ∧ RcS w6 (.slice (some ⟨g5, 0, none⟩) m m) S.re ∧ RcS w6 (.slice (some ⟨g6, 0, none⟩) m m) S.re) := ⟨HT5.out.1.fr.trans f6, HT5.out.2.keep f6 (fun _ _ h => h), hl6⟩
  clear x0 x1 x2 x3 h hU hg6 f6 hl6 HT5
  go_wp2_with fail
  go_loopw [19] (fun i wr => ∃ j : Nat, j ≤ m ∧ i = .int .i64 j ∧ Fr none' w6 wr) (fun i _ => m - (intOf i).toNat)
  case atStart => exact ⟨0, by omega, rfl, Fr.refl _ _⟩
  case round =>
    obtain ⟨j, hj, rfl, F6⟩ := hrel
    by_cases hlt : j < m
    · obtain ⟨z, hz⟩ : ∃ z, S.re[j]? = some z := ⟨S.re[j]'(by have := HRE.out.2; omega), by simp⟩
      have hl7 := HV6.out.2.1.keep F6 (fun _ _ h => h)
      have hr7 := HV6.out.2.2.keep F6 (fun _ _ h => h)
      obtain ⟨c0, c1, c2, c3⟩ := hl7.cells hz
      rw [Nat.zero_add] at c0 c1 c2 c3
      obtain ⟨b0, b1, b2, b3⟩ := hr7.cells hz
      rw [Nat.zero_add] at b0 b1 b2 b3
      have i1 : 0 ≤ (j : Int) ∧ (j : Int) < (m : Int) := by omega
      have heq := neq_rec
      have HF6 : Hid (Fr none' w6 wr) := F6
      clear hl7 hr7 F6
      go_wp2_with fail
      go_quiet (fail)
      clear c0 c1 c2 c3 b0 b1 b2 b3 heq
      go_wp2_with fail
      go_roundw
      case rel => exact ⟨j + 1, by omega, by go_num, HF6.out.trans (fr_drewN _ _)⟩
      case measure => simp [intOf]; omega
    · obtain rfl : j = m := by omega
      go_wp2_with fail
      go_ret
      exact ⟨rfl, (HV6.out.1.trans F6).below (Nat.le_refl _) (fun _ h => h.elim)⟩

end Go.Proofs.Ythmombgogmgobaa
