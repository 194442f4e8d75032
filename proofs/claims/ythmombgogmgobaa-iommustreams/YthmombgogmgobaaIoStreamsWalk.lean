/-
  The walk of the law IommuStreams over the translation: it answers true. No statement is proved here.
-/
import Derived.Test.YthmombgogmgobaaIoSound
import Derived.Test.YthmombgogmgobaaIoAwake
import Derived.Test.YthmombgogmgobaaIoOpen
namespace Go.Proofs.Ythmombgogmgobaa
open Go.RowKit

theorem ChgU.fr0 {w wa wb : World} {U U' : Nat → Prop} (f : Fr none' w wa) (u : ChgU wa U wb U') (h : ∀ k, U k → w.heap.size ≤ k) : Fr none' w wb ∧ ∀ k, U' k → w.heap.size ≤ k :=
  ⟨⟨u.1.os.trans f.os, u.1.tape.trans f.tape, u.1.output.trans f.output, Nat.le_trans f.size u.1.size, fun i hi hn => (u.1.block i (Nat.lt_of_lt_of_le hi f.size) (fun e => by have := h i e; omega)).trans (f.block i hi hn)⟩, fun k hk => by
    rcases u.2 k hk with e | e
    · exact h k e
    · exact Nat.le_trans f.size e⟩

/-- Two that lie apart, above a floor. -/
structure Two (n : Nat) (w : World) (x y : Nat) (Ux Uy : Nat → Prop) (bs bs' : List UInt8) (S T : Io) : Prop where
  hx : IsBo w x Ux bs S
  hy : IsBo w y Uy bs' T
  nx : ∀ k, Ux k → n ≤ k
  ny : ∀ k, Uy k → n ≤ k
  di : ∀ k, Ux k → ¬ Uy k
theorem Two.stepX {n : Nat} {w w' : World} {x y : Nat} {Ux Uy Ux' : Nat → Prop} {bs bs' bs1 : List UInt8} {S T S1 : Io} (h : Two n w x y Ux Uy bs bs' S T) (hn : n ≤ w.heap.size) (k : IsBo w' x Ux' bs1 S1) (u : ChgU w Ux w' Ux') : Two n w' x y Ux' Uy bs1 bs' S1 T :=
  ⟨k, h.hy.keep u.1 (fun j hj hux => h.di j hux hj), fun j hj => by
    rcases u.2 j hj with e | e
    · exact h.nx j e
    · omega, h.ny, fun j hj hy => by
    rcases u.2 j hj with e | e
    · exact h.di j e hy
    · have := h.hy.lt j hy; omega⟩
theorem Two.stepY {n : Nat} {w w' : World} {x y : Nat} {Ux Uy Uy' : Nat → Prop} {bs bs' bs1 : List UInt8} {S T T1 : Io} (h : Two n w x y Ux Uy bs bs' S T) (hn : n ≤ w.heap.size) (k : IsBo w' y Uy' bs1 T1) (u : ChgU w Uy w' Uy') : Two n w' x y Ux Uy' bs bs1 S T1 :=
  ⟨h.hx.keep u.1 (fun j hj huy => h.di j hj huy), k, h.nx, fun j hj => by
    rcases u.2 j hj with e | e
    · exact h.ny j e
    · omega, fun j hj hy => by
    rcases u.2 j hy with e | e
    · exact h.di j hj e
    · have := h.hx.lt j hj; omega⟩
theorem Two.keep0 {n : Nat} {w w' : World} {x y : Nat} {Ux Uy : Nat → Prop} {bs bs' : List UInt8} {S T : Io} (h : Two n w x y Ux Uy bs bs' S T) (f : Fr none' w w') : Two n w' x y Ux Uy bs bs' S T := ⟨h.hx.keep0 f, h.hy.keep0 f, h.nx, h.ny, h.di⟩

theorem quiet_facts {a : Aq} : quietA a = (a.d != 8 && !(a.d == 3 && a.wr)) := rfl

set_option maxHeartbeats 8000000 in
set_option maxRecDepth 100000 in
theorem iostreams_any (a0 : Option Addr) (len cap : Nat) (a1 : Option Addr) (len1 cap1 : Nat) (a : Aq) (s ad : Int) (w : World) (hl : len ≤ 9223372036854775807) (hP : ∃ P, Pqs w a0 len P) (hl1 : len1 ≤ 9223372036854775807) (hA : ∃ A, Aqs w a1 len1 A) (hb : a.b < 256) :
    Calls Try.prog 7 #[.slice a0 len cap, .slice a1 len1 cap1, .agg #[.int .i64 a.d, .int .i64 a.s, .int .i64 a.n, .bool a.wr, .int .u8 (a.b : Int), .int .i64 a.q.t, .int .i64 a.q.i, .bool a.q.v, .bool a.q.l, .int .i64 a.q.r, .int .i64 a.q.f], .int .i64 s, .int .i64 ad] w fun e w' => e = .returned (.bool true) ∧ Below w.heap.size w w' := by
  obtain ⟨P, hP⟩ := hP
  obtain ⟨A, hA⟩ := hA
  have F0 := (Fr.refl none' w).alloc (.cells #[.int .i64 a.d, .int .i64 a.s, .int .i64 a.n, .bool a.wr, .int .u8 (a.b : Int), .int .i64 a.q.t, .int .i64 a.q.i, .bool a.q.v, .bool a.q.l, .int .i64 a.q.r, .int .i64 a.q.f] 33)
  have R0 := row_alloc w #[.int .i64 a.d, .int .i64 a.s, .int .i64 a.n, .bool a.wr, .int .u8 (a.b : Int), .int .i64 a.q.t, .int .i64 a.q.i, .bool a.q.v, .bool a.q.l, .int .i64 a.q.r, .int .i64 a.q.f] 33
  replace hP := hP.keep F0
  replace hA := hA.keep F0
  go_enter Try.func7, Try.ntmps7
  go_upto_region 1 with fail
  obtain ⟨W0, hW0⟩ : ∃ W0, W0 = w.alloc (.cells #[.int .i64 a.d, .int .i64 a.s, .int .i64 a.n, .bool a.wr, .int .u8 (a.b : Int), .int .i64 a.q.t, .int .i64 a.q.i, .bool a.q.v, .bool a.q.l, .int .i64 a.q.r, .int .i64 a.q.f] 33) := ⟨_, rfl⟩
  obtain ⟨B, hB⟩ : ∃ B, B = w.heap.size := ⟨_, rfl⟩
  rw [← hW0] at F0 R0 hP hA ⊢
  rw [← hB] at R0 ⊢
  have HA : Hid (Aqs W0 a1 len1 A) := hA
  have HR : Hid (AqIs W0 B 0 a) := aq_row hb R0
  have HF0 : Hid (Fr none' w W0) := F0
  clear hW0 hB hA R0 F0
  go_wp2_with fail
  refine (ioawake_any _).mono ?_
  rintro e w1 ⟨rfl, f1⟩
  replace hP := hP.keep f1
  go_wp2_with fail
  refine (iomade_any _ a0 len cap P hl hP).mono ?_
  rintro e w2 ⟨x, Ux, rfl, f2, hx, hUx⟩
  replace hP := hP.keep f2
  go_wp2_with fail
  refine (iomade_any _ a0 len cap P hl hP).mono ?_
  rintro e w3 ⟨y, Uy, rfl, f3, hy, hUy⟩
  obtain ⟨bs, hbs⟩ : ∃ bs, bs = mdB P len := ⟨_, rfl⟩
  rw [← hbs] at hx hy
  have F : Fr none' W0 w3 := (f1.trans f2).trans f3
  have T0 : Two W0.heap.size w3 x y Ux Uy bs bs io0 io0 := ⟨hx.keep0 f3, hy, fun k hk => Nat.le_trans f1.size (hUx k hk), fun k hk => Nat.le_trans (f1.trans f2).size (hUy k hk), fun k hk hk' => by have p := hx.lt k hk; have q := hUy k hk'; omega⟩
  have S0 : Snd bs io0 := snd0 bs
  clear f1 f2 f3 hP hUx hUy hx hy hbs
  go_upto_block 0 with fail
  go_cut [14] from 30 to 73 (fun i wr => ∃ (Ux Uy : Nat → Prop) (S : Io), Fr none' W0 wr ∧ Two W0.heap.size wr x y Ux Uy bs bs S S ∧ Snd bs S)
  case first =>
    go_wp2_with fail
    go_loopw [14] (fun i wr => ∃ (k : Nat) (Ux Uy : Nat → Prop) (S : Io), k ≤ len1 ∧ k ≤ 80 ∧ i = .int .i64 k ∧ Fr none' W0 wr ∧ Two W0.heap.size wr x y Ux Uy bs bs S S ∧ Snd bs S) (fun i _ => 80 - (intOf i).toNat)
    case atStart => exact ⟨0, Ux, Uy, io0, by omega, by omega, rfl, F, T0, S0⟩
    case round =>
      clear F T0 S0
      obtain ⟨k, Ux, Uy, S, hk, hk2, rfl, F, TT, SS⟩ := hrel
      by_cases hlt : k < len1
      · by_cases hlt2 : k < 80
        · obtain ⟨b, o, rfl, ak⟩ := HA.out k hlt
          replace ak := ak.keep F (fun h => h)
          have i1 : 0 ≤ (k : Int) ∧ (k : Int) < (len1 : Int) := by omega
          have uk1 : decide ((k : Int) < (len1 : Int)) = true := decide_eq_true (by omega)
          have uk2 : decide ((k : Int) < 80) = true := decide_eq_true (by omega)
          have HAK : Hid (AqIs wr b (o + k * 11) (A k)) := ak
          obtain ⟨c0, c1, c2, c3, c4, _, hbk⟩ := ak
          have HTT : Hid (Fr none' W0 wr ∧ Two W0.heap.size wr x y Ux Uy bs bs S S ∧ Snd bs S) := ⟨F, TT, SS⟩
          clear F TT SS c1 c2 c4
          go_upto_region 9 with fail
          go_cut [61] from 40 to 61 (fun c wx => c = .bool (quietA (A k)) ∧ wx = wr)
          case first =>
            by_cases h8 : (A k).d = 8
            · have t8 : ((A k).d != 8) = false := by simp [h8]
              have HEQ : Hid (quietA (A k) = false) := (show _ = _ from by rw [quiet_facts, t8]; rfl)
              clear h8
              go_wp2_with fail; go_meet; exact ⟨by rw [HEQ.out], rfl⟩
            · have t8 : ((A k).d != 8) = true := by simp [h8]
              by_cases h3 : (A k).d = 3
              · have t3 : ((A k).d == 3) = true := by simp [h3]
                cases hw : (A k).wr with
                | false =>
                  have HEQ : Hid (quietA (A k) = true) := (show _ = _ from by rw [quiet_facts, t8, t3, hw]; rfl)
                  rw [hw] at c3
                  clear h8 h3 hw
                  go_wp2_with fail; go_meet; exact ⟨by rw [HEQ.out], rfl⟩
                | true =>
                  have HEQ : Hid (quietA (A k) = false) := (show _ = _ from by rw [quiet_facts, t8, t3, hw]; rfl)
                  rw [hw] at c3
                  clear h8 h3 hw
                  go_wp2_with fail; go_meet; exact ⟨by rw [HEQ.out], rfl⟩
              · have t3 : ((A k).d == 3) = false := by simp [h3]
                have HEQ : Hid (quietA (A k) = true) := (show _ = _ from by rw [quiet_facts, t8, t3]; rfl)
                clear h8 h3
                go_wp2_with fail; go_meet; exact ⟨by rw [HEQ.out], rfl⟩
          case rest =>
          obtain ⟨rfl, rfl⟩ := hcut
          clear c0 c3
          cases hq : quietA (A k) with
          | false =>
            go_wp2_with fail
            go_roundw
            case rel => exact ⟨k + 1, Ux, Uy, S, by omega, by omega, by go_num, HTT.out.1, HTT.out.2.1, HTT.out.2.2⟩
            case measure => simp [intOf]; omega
          | true =>
            obtain ⟨c0, c1, c2, c3, c4, ⟨c5, c6, c7, c8, c9, c10⟩, _⟩ := HAK.out
            go_wp2_with fail
            refine (does_any _ _ _ _ _ (A k) hbk HTT.out.2.1.hx).mono ?_
            rintro e w4 ⟨rfl, Ux1, hx1, u1⟩
            rw [quiet_bs hq] at hx1
            have T1 := HTT.out.2.1.stepX HTT.out.1.size hx1 u1
            have F1 := (u1.fr0 HTT.out.1 HTT.out.2.1.nx).1
            have hbl : b < W0.heap.size := by obtain ⟨b', o', e, q⟩ := HA.out k hlt; have e' : b = b' ∧ o = o' := (by simpa using e); rw [e'.1]; exact cell_lt q.c0
            have ak4 := HAK.out.keep u1.1 (fun e => by have := HTT.out.2.1.nx _ e; omega)
            clear c0 c1 c2 c3 c4 c5 c6 c7 c8 c9 c10 u1 hx1 hbl
            obtain ⟨c0, c1, c2, c3, c4, ⟨c5, c6, c7, c8, c9, c10⟩, _⟩ := ak4
            go_wp2_with fail
            refine (does_any _ _ _ _ _ (A k) hbk T1.hy).mono ?_
            rintro e w5 ⟨rfl, Uy1, hy1, u2⟩
            rw [quiet_bs hq] at hy1
            have T2 := T1.stepY F1.size hy1 u2
            have F2 := (u2.fr0 F1 T1.ny).1
            have H' : Hid (Fr none' W0 w5 ∧ Two W0.heap.size w5 x y Ux1 Uy1 bs bs (actS bs S (A k)) (actS bs S (A k)) ∧ Snd bs (actS bs S (A k))) := ⟨F2, T2, HTT.out.2.2.act _⟩
            clear c0 c1 c2 c3 c4 c5 c6 c7 c8 c9 c10 u2 hy1 T1 T2 F1 F2
            go_wp2_with fail
            go_roundw
            case rel => exact ⟨k + 1, Ux1, Uy1, _, by omega, by omega, by go_num, H'.out.1, H'.out.2.1, H'.out.2.2⟩
            case measure => simp [intOf]; omega
        · obtain rfl : k = 80 := by omega
          have uk1 : decide (((80 : Nat) : Int) < (len1 : Int)) = true := decide_eq_true (by omega)
          go_wp2_with fail
          go_meet
          exact ⟨Ux, Uy, S, F, TT, SS⟩
      · obtain rfl : k = len1 := by omega
        go_wp2_with fail
        go_meet
        exact ⟨Ux, Uy, S, F, TT, SS⟩
  case rest =>
  clear F T0 S0
  obtain ⟨Ux, Uy, S, F, TT, SS⟩ := hcut
  have HTT : Hid (Fr none' W0 wc ∧ Two W0.heap.size wc x y Ux Uy bs bs S S ∧ Snd bs S) := ⟨F, TT, SS⟩
  have HR2 : Hid (AqIs wc B 0 a) := HR.out.keep F (fun h => h)
  clear F TT SS
  go_upto_region 12 with fail
  go_cut [108] from 74 to 108 (fun c wx => ∃ b : Bool, c = .bool b ∧ (b = false → a.s ≠ s ∧ quietA a = true) ∧ wx = wc)
  case first =>
    obtain ⟨c0, c1, c2, c3, c4, _, _⟩ := HR2.out
    simp only [Nat.zero_add] at c1 c3
    clear c2 c4
    by_cases hs : a.s = s
    · have ts : (a.s == s) = true := by simp [hs]
      clear hs
      go_wp2_with fail; go_meet; exact ⟨true, rfl, (fun e => by cases e), rfl⟩
    · have ts : (a.s == s) = false := by simp [hs]
      by_cases h1 : a.d = 1
      · have n1 : (a.d != 1) = false := by simp [h1]
        have HNE : Hid (a.s ≠ s ∧ quietA a = true) := ⟨hs, by rw [quiet_facts, h1]; rfl⟩
        clear hs h1
        go_wp2_with fail; go_meet; exact ⟨false, rfl, (fun _ => HNE.out), rfl⟩
      have n1 : (a.d != 1) = true := by simp [h1]
      by_cases h2 : a.d = 2
      · have n2 : (a.d != 2) = false := by simp [h2]
        have HNE : Hid (a.s ≠ s ∧ quietA a = true) := ⟨hs, by rw [quiet_facts, h2]; rfl⟩
        clear hs h2
        go_wp2_with fail; go_meet; exact ⟨false, rfl, (fun _ => HNE.out), rfl⟩
      have n2 : (a.d != 2) = true := by simp [h2]
      by_cases h4 : a.d = 4
      · have n4 : (a.d != 4) = false := by simp [h4]
        have HNE : Hid (a.s ≠ s ∧ quietA a = true) := ⟨hs, by rw [quiet_facts, h4]; rfl⟩
        clear hs h4
        go_wp2_with fail; go_meet; exact ⟨false, rfl, (fun _ => HNE.out), rfl⟩
      have n4 : (a.d != 4) = true := by simp [h4]
      by_cases h5 : a.d = 5
      · have n5 : (a.d != 5) = false := by simp [h5]
        have HNE : Hid (a.s ≠ s ∧ quietA a = true) := ⟨hs, by rw [quiet_facts, h5]; rfl⟩
        clear hs h5
        go_wp2_with fail; go_meet; exact ⟨false, rfl, (fun _ => HNE.out), rfl⟩
      have n5 : (a.d != 5) = true := by simp [h5]
      by_cases h3 : a.d = 3
      · have t3 : (a.d == 3) = true := by simp [h3]
        rcases Bool.eq_false_or_eq_true a.wr with hw | hw
        · rw [hw] at c3
          clear hs h1 h2 h4 h5 h3 hw
          go_wp2_with fail; go_meet; exact ⟨true, rfl, (fun e => by cases e), rfl⟩
        · rw [hw] at c3
          have HNE : Hid (a.s ≠ s ∧ quietA a = true) := ⟨hs, by rw [quiet_facts, h3, hw]; rfl⟩
          clear hs h1 h2 h4 h5 h3 hw
          go_wp2_with fail; go_meet; exact ⟨false, rfl, (fun _ => HNE.out), rfl⟩
      · have t3 : (a.d == 3) = false := by simp [h3]
        clear hs h1 h2 h4 h5 h3
        go_wp2_with fail; go_meet; exact ⟨true, rfl, (fun e => by cases e), rfl⟩
  case rest =>
  obtain ⟨b, rfl, hb', rfl⟩ := hcut
  have HBB : Hid (b = false → a.s ≠ s ∧ quietA a = true) := hb'
  clear hb'
  cases b with
  | true =>
    go_wp2_with fail
    go_ret
    exact ⟨rfl, (HF0.out.trans HTT.out.1).below (Nat.le_refl _) (fun _ h => h.elim)⟩
  | false =>
    have hne := (HBB.out rfl).1
    have hq := (HBB.out rfl).2
    obtain ⟨c0, c1, c2, c3, c4, ⟨c5, c6, c7, c8, c9, c10⟩, _⟩ := HR2.out
    simp only [Nat.zero_add] at c1 c2 c3 c4 c5 c6 c7 c8 c9 c10
    go_wp2_with fail
    refine (does_any _ _ _ _ _ a hb HTT.out.2.1.hx).mono ?_
    rintro e w4 ⟨rfl, Ux1, hx1, u1⟩
    rw [quiet_bs hq] at hx1
    have T1 := HTT.out.2.1.stepX HTT.out.1.size hx1 u1
    have F1 := (u1.fr0 HTT.out.1 HTT.out.2.1.nx).1
    have S1 : Snd bs (actS bs S a) := HTT.out.2.2.act a
    have hal := S1.alike HTT.out.2.2 ad false 0 (fun h => act_ro h hne)
    obtain ⟨SX, hSX⟩ : ∃ SX, SX = actS bs S a := ⟨_, rfl⟩
    rw [← hSX] at T1 hal
    obtain ⟨vv, hvv⟩ : ∃ vv, vv = dmaV bs 16 SX s ad false 0 := ⟨_, rfl⟩
    obtain ⟨ee, hee⟩ : ∃ ee, ee = dmaE bs 16 SX s ad false := ⟨_, rfl⟩
    rw [← hvv, ← hee] at hal
    clear c0 c1 c2 c3 c4 c5 c6 c7 c8 c9 c10 u1 hx1 hSX S1 hne hq
    obtain ⟨pm, bm, pr, br, bi, ji, O, Q, h, hU⟩ := T1.hx
    have hD := h.keep0 (Fr.refl none' w4).drew
    have rX := h.row
    go_wp2_with fail
    have hC := dma_bo w4.drew x pm bm pr br bi ji O Q bs bs SX SX s ad false 0 (by decide) vv ee hD hvv.symm hee.symm
    go_region_held3 (fun w' => w'.cell? ⟨x, 1, none⟩ = some (.pointer (some ⟨bi, 0, none⟩)) ∧ w'.cell? ⟨x, 0, none⟩ = some (.pointer (some ⟨pm, 0, none⟩))) (first | with_reducible exact ⟨rX.c1, rX.c0⟩ | exact ⟨rX.c1, rX.c0⟩) (first | (go_at_call 15; refine hC.mono ?_; rintro e w5 ⟨rfl, O1, h', u⟩; replace rX := h'.row))
    have u' : ChgU w4 Ux1 w5 (boU x pm bm pr br O1 Q) := by rw [hU]; exact (ChgU.none (Fr.refl none' w4).drew).trans u
    have F2 := (u'.fr0 F1 T1.nx).1
    have hy5 := T1.hy.keep u'.1 (fun j hj hux => T1.di j hux hj)
    have hny := T1.ny
    clear hD hC h' u rX h hU T1 u'
    obtain ⟨pm', bm', pr', br', bi', ji', O', Q', h, hU⟩ := hy5
    have hD := h.keep0 (Fr.refl none' w5).drew
    have rX := h.row
    go_wp2_with fail
    have hC := dma_bo w5.drew y pm' bm' pr' br' bi' ji' O' Q' bs bs S S s ad false 0 (by decide) vv ee hD hal.2.symm hal.1.symm
    go_region_held3 (fun w' => w'.cell? ⟨y, 1, none⟩ = some (.pointer (some ⟨bi', 0, none⟩)) ∧ w'.cell? ⟨y, 0, none⟩ = some (.pointer (some ⟨pm', 0, none⟩))) (first | with_reducible exact ⟨rX.c1, rX.c0⟩ | exact ⟨rX.c1, rX.c0⟩) (first | (go_at_call 15; refine hC.mono ?_; rintro e w6 ⟨rfl, O2, h', u⟩; replace rX := h'.row))
    have u' : ChgU w5 Uy w6 (boU y pm' bm' pr' br' O2 Q') := by rw [hU]; exact (ChgU.none (Fr.refl none' w5).drew).trans u
    have F3 := (u'.fr0 F2 hny).1
    have HF3 : Hid (Fr none' W0 w6) := F3
    clear hD hC h' u rX h hU u' F3 F2 F1 hny hal hvv hee
    go_wp2_with fail
    go_ret
    exact ⟨ret_bool (by simp), (HF0.out.trans HF3.out).below (Nat.le_refl _) (fun _ h => h.elim)⟩

end Go.Proofs.Ythmombgogmgobaa
